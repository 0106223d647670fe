package tally

import (
	"math"
	"math/big"
	"math/rand"
	"slices"
	"testing"

	"datum/api"
)

const (
	least    = math.MinInt
	highest  = math.MaxInt
	million  = 1000000
	thousand = 1000
)

// The kinds, by their numbers: shares, how many, what is counted on one unit, and on several.
const (
	kindP  = 2
	kindNp = 3
	kindC  = 4
	kindU  = 5
)

// kinds are all kinds of charts of counts.
func kinds() []int { return []int{kindP, kindNp, kindC, kindU} }

// sizes are sizes of the kind, the least and the greatest among them.
func sizes(kind int) []int {
	if kind == kindC {
		return []int{1}
	}
	return []int{1, 2, 3, 10, 999, thousand}
}

// mostOf is the greatest count.
func mostOf(kind, size int) int {
	if kind == kindP || kind == kindNp {
		return size
	}
	return million
}

// isFrom is whether x is from low to high, all of any size.
func isFrom(low int, x int, high *big.Int) bool {
	held := big.NewInt(int64(x))
	return big.NewInt(int64(low)).Cmp(held) <= 0 && held.Cmp(high) <= 0
}

// product is what the numbers are, multiplied.
func product(l ...int) *big.Int {
	all := big.NewInt(1)
	for _, x := range l {
		all.Mul(all, big.NewInt(int64(x)))
	}
	return all
}

// mayBe is whether the tally may be, as the chapter's words say it.
func mayBe(t api.Tally) bool {
	kind := slices.Contains(kinds(), t.Kind)
	size := isFrom(1, t.Size, big.NewInt(thousand))
	if t.Kind == kindC {
		size = t.Size == 1
	}
	m := isFrom(0, t.M, big.NewInt(25))
	sum := isFrom(0, t.Sum, product(t.M, mostOf(t.Kind, t.Size)))
	return kind && size && m && sum
}

// isOne is whether d is a count of the tally.
func isOne(t api.Tally, d int) bool {
	return isFrom(0, d, big.NewInt(int64(mostOf(t.Kind, t.Size))))
}

// reckonedTake is what Take is to tell, found apart from the program.
func reckonedTake(t api.Tally, d int) (api.Tally, api.Errno) {
	if !mayBe(t) || !isOne(t, d) {
		return api.Tally{}, api.ErrArg
	}
	if t.M == 25 {
		return api.Tally{}, api.ErrFull
	}
	return api.Tally{Kind: t.Kind, Size: t.Size, M: t.M + 1, Sum: t.Sum + d}, api.OK
}

// checkRight holds Right's answer against what is wanted, and the chapter's words against both.
func checkRight(t *testing.T, held api.Tally, want bool) {
	t.Helper()
	if got := Right(held); got != want || mayBe(held) != want {
		t.Errorf("Right(%v) = %t; want %t, by the chapter's words %t", held, got, want, mayBe(held))
	}
}

// checkNew holds New's answer against what is wanted: a tally without counts, or ErrArg and the zero tally.
func checkNew(t *testing.T, kind, size int, may bool) {
	t.Helper()
	want, told := api.Tally{}, api.ErrArg
	if may {
		want, told = api.Tally{Kind: kind, Size: size}, api.OK
	}
	if got, why := New(kind, size); got != want || why != told {
		t.Errorf("New(%d, %d) = %v, %d; want %v, %d", kind, size, got, why, want, told)
	}
}

// checkTake holds Take's answer against what is wanted.
func checkTake(t *testing.T, held api.Tally, d int, want api.Tally, why api.Errno) {
	t.Helper()
	if got, told := Take(held, d); got != want || told != why {
		t.Errorf("Take(%v, %d) = %v, %d; want %v, %d", held, d, got, told, want, why)
	}
}

// checkTakes holds Take's answer against what is reckoned.
func checkTakes(t *testing.T, held api.Tally, d int) {
	t.Helper()
	want, why := reckonedTake(held, d)
	checkTake(t, held, d, want, why)
}

// rightTallies are tallies of every kind with few counts and with many, with sums at both ends and between.
func rightTallies() []api.Tally {
	var l []api.Tally
	for _, kind := range kinds() {
		for _, size := range sizes(kind) {
			l = append(l, api.Tally{Kind: kind, Size: size})
			for _, m := range []int{1, 2, 3, 7, 24, 25} {
				most := m * mostOf(kind, size)
				for _, sum := range []int{0, 1, most / 3, most / 2, most - 1, most} {
					l = append(l, api.Tally{Kind: kind, Size: size, M: m, Sum: sum})
				}
			}
		}
	}
	return l
}

// wrongTallies are tallies that may not be, each with one field beyond one of its ends.
func wrongTallies() []api.Tally {
	l := []api.Tally{{}}
	for _, kind := range []int{-1, 0, 1, 6, 7, 8, least, highest} {
		l = append(l, api.Tally{Kind: kind, Size: 1}, api.Tally{Kind: kind, Size: 1, M: 2, Sum: 1})
	}
	for _, kind := range kinds() {
		for _, size := range []int{-1, 0, thousand + 1, least, highest} {
			l = append(l, api.Tally{Kind: kind, Size: size}, api.Tally{Kind: kind, Size: size, M: 2, Sum: 1})
		}
		for _, size := range sizes(kind) {
			for _, m := range []int{-1, 26, least, highest} {
				l = append(l, api.Tally{Kind: kind, Size: size, M: m}, api.Tally{Kind: kind, Size: size, M: m, Sum: 1})
			}
			for _, m := range []int{0, 1, 25} {
				for _, sum := range []int{-1, m*mostOf(kind, size) + 1, least, highest} {
					l = append(l, api.Tally{Kind: kind, Size: size, M: m, Sum: sum})
				}
			}
		}
	}
	for _, size := range []int{2, 10, thousand} {
		l = append(l, api.Tally{Kind: kindC, Size: size}, api.Tally{Kind: kindC, Size: size, M: 2, Sum: 1})
	}
	return l
}

// wrongCounts are numbers that are no counts of the kind and size.
func wrongCounts(kind, size int) []int {
	most := mostOf(kind, size)
	return []int{-1, -2, -most, most + 1, most + 2, 2*million + 1, least, least + 1, highest - 1, highest}
}

// P16.1: Right is whether the tally may be: each field at both its ends, and one beyond them.
func TestRightEnds(t *testing.T) {
	for _, held := range rightTallies() {
		checkRight(t, held, true)
	}
	for _, held := range wrongTallies() {
		checkRight(t, held, false)
	}
}

// P16.1: the kind is 2 to 5, whatever the other fields are.
func TestRightKinds(t *testing.T) {
	for _, kind := range []int{0, 1, 2, 3, 4, 5, 6, 7, 8, -1, -2, least, highest} {
		want := 2 <= kind && kind <= 5
		checkRight(t, api.Tally{Kind: kind, Size: 1}, want)
		checkRight(t, api.Tally{Kind: kind, Size: 1, M: 25, Sum: 1}, want)
		checkRight(t, api.Tally{Kind: kind, Size: 5, M: 1}, want && kind != 4)
	}
}

// P16.1: the size is 1 to 1000, and 1 of what is counted on one unit.
func TestRightSizes(t *testing.T) {
	for _, kind := range kinds() {
		for _, size := range []int{-1, 0, 1, 2, 3, 999, 1000, 1001, least, highest} {
			want := 1 <= size && size <= 1000
			if kind == kindC {
				want = size == 1
			}
			checkRight(t, api.Tally{Kind: kind, Size: size}, want)
			checkRight(t, api.Tally{Kind: kind, Size: size, M: 25, Sum: 1}, want)
		}
	}
}

// P16.1: how many counts came is 0 to 25.
func TestRightHowManyCame(t *testing.T) {
	for _, kind := range kinds() {
		for _, size := range sizes(kind) {
			for _, m := range []int{-1, 0, 1, 24, 25, 26, least, highest} {
				checkRight(t, api.Tally{Kind: kind, Size: size, M: m}, 0 <= m && m <= 25)
			}
		}
	}
}

// P16.1: the sum is 0 to M times the greatest count, whichever the kind and the size.
func TestRightSums(t *testing.T) {
	for _, kind := range kinds() {
		for _, size := range sizes(kind) {
			for m := 0; m <= 25; m++ {
				most := m * mostOf(kind, size)
				for _, sum := range []int{-1, 0, 1, most - 1, most, most + 1} {
					checkRight(t, api.Tally{Kind: kind, Size: size, M: m, Sum: sum}, 0 <= sum && sum <= most)
				}
			}
		}
	}
}

// P16.1: the greatest sums, by hand.
func TestRightGreatestSums(t *testing.T) {
	for _, held := range []api.Tally{
		{Kind: kindP, Size: 10, M: 3, Sum: 30},
		{Kind: kindNp, Size: 10, M: 3, Sum: 30},
		{Kind: kindP, Size: 1000, M: 25, Sum: 25000},
		{Kind: kindNp, Size: 1000, M: 25, Sum: 25000},
		{Kind: kindC, Size: 1, M: 1, Sum: 1000000},
		{Kind: kindC, Size: 1, M: 25, Sum: 25000000},
		{Kind: kindU, Size: 1, M: 1, Sum: 1000000},
		{Kind: kindU, Size: 1000, M: 25, Sum: 25000000},
	} {
		checkRight(t, held, true)
		held.Sum++
		checkRight(t, held, false)
	}
}

// P16.1: nothing wraps: fields about the ends of int, and such of which a product would come back between the ends, are told wrong.
func TestRightAtEndsOfInt(t *testing.T) {
	far := []int{least, least + 1, least / thousand, least / million, highest / million, highest / thousand, highest - 1, highest, 1 << 32, -1 << 32, 1<<32 + 1, 1 << 58, 1 << 61, 1 << 62, -1 << 62}
	for _, x := range far {
		checkRight(t, api.Tally{Kind: x, Size: 1}, false)
		checkRight(t, api.Tally{Kind: x, Size: x, M: x, Sum: x}, false)
		for _, kind := range kinds() {
			checkRight(t, api.Tally{Kind: kind, Size: x}, false)
			checkRight(t, api.Tally{Kind: kind, Size: x, M: 2, Sum: 2}, false)
			checkRight(t, api.Tally{Kind: kind, Size: x, M: 16}, false)
			checkRight(t, api.Tally{Kind: kind, Size: 1, M: x}, false)
			checkRight(t, api.Tally{Kind: kind, Size: 1, M: x, Sum: 1}, false)
			checkRight(t, api.Tally{Kind: kind, Size: 1, M: 25, Sum: x}, false)
			checkRight(t, api.Tally{Kind: kind, Size: 1, M: x, Sum: x}, false)
			checkRight(t, api.Tally{Kind: kind, Size: x, M: x, Sum: x}, false)
		}
		checkRight(t, api.Tally{Kind: kindP, Size: 1000, M: 25, Sum: x}, false)
		checkRight(t, api.Tally{Kind: kindU, Size: 1000, M: x, Sum: 1}, false)
	}
}

// P16.1: drawn tallies, near all ends, are told as the chapter's words say.
func TestRightDrawn(t *testing.T) {
	draw := rand.New(rand.NewSource(1))
	about := func(x int) int { return x - 1 + draw.Intn(3) }
	for range 50000 {
		kind, m := draw.Intn(6)+1, draw.Intn(28)-1
		size := []int{about(1), about(thousand), about(500)}[draw.Intn(3)]
		held := api.Tally{Kind: kind, Size: size, M: m, Sum: about(m * mostOf(kind, size) * draw.Intn(2))}
		checkRight(t, held, mayBe(held))
	}
}

// P16.1: New is a tally without counts, of each kind and each of its sizes, or ErrArg.
func TestNew(t *testing.T) {
	for _, kind := range []int{-1, 0, 1, 2, 3, 4, 5, 6, 7, 8, least, least + 2, highest} {
		for _, size := range []int{-1, 0, 1, 2, 500, 1000, 1001, least, least + 1, highest - 1, highest, 1<<32 + 1} {
			may := 2 <= kind && kind <= 5 && 1 <= size && size <= 1000 && (kind != 4 || size == 1)
			checkNew(t, kind, size, may)
		}
	}
	for size := -2; size <= thousand+2; size++ {
		for _, kind := range kinds() {
			checkNew(t, kind, size, 1 <= size && size <= 1000 && (kind != 4 || size == 1))
		}
	}
}

// P16.1: what New makes may be, and has no counts yet.
func TestNewMayBe(t *testing.T) {
	for _, kind := range kinds() {
		for _, size := range sizes(kind) {
			held, _ := New(kind, size)
			checkRight(t, held, true)
			checkPoint(t, held, 0, api.Point{}, api.ErrState)
		}
	}
}

// P16.1: of a tally that may not be, Take and Point tell ErrArg, whatever the count is, and zero beside it.
func TestTalliesThatMayNotBe(t *testing.T) {
	for _, held := range wrongTallies() {
		for _, d := range []int{0, 1, -1, 2, thousand, million, million + 1, least, highest} {
			checkTake(t, held, d, api.Tally{}, api.ErrArg)
			checkPoint(t, held, d, api.Point{}, api.ErrArg)
		}
	}
}

// P16.1: of what is no count, Take tells ErrArg, of a full tally too, and the zero tally beside it.
func TestTakeOfNoCounts(t *testing.T) {
	for _, held := range rightTallies() {
		for _, d := range wrongCounts(held.Kind, held.Size) {
			checkTake(t, held, d, api.Tally{}, api.ErrArg)
		}
	}
}

// P16.2: M is one more, and Sum more by the count, of each kind, at the least count, the greatest, and between.
func TestTakeCounts(t *testing.T) {
	for _, held := range rightTallies() {
		most := mostOf(held.Kind, held.Size)
		for _, d := range []int{0, 1, most / 2, most - 1, most} {
			checkTakes(t, held, d)
			if then, why := Take(held, d); why == api.OK {
				checkRight(t, then, true)
			}
		}
	}
}

// P16.2: counts that are taken, by hand, of each kind.
func TestTakeByHand(t *testing.T) {
	checkTake(t, api.Tally{Kind: kindP, Size: 10}, 10, api.Tally{Kind: kindP, Size: 10, M: 1, Sum: 10}, api.OK)
	checkTake(t, api.Tally{Kind: kindP, Size: 10}, 11, api.Tally{}, api.ErrArg)
	checkTake(t, api.Tally{Kind: kindNp, Size: 1000, M: 24, Sum: 24000}, 1000, api.Tally{Kind: kindNp, Size: 1000, M: 25, Sum: 25000}, api.OK)
	checkTake(t, api.Tally{Kind: kindNp, Size: 1000, M: 24, Sum: 24000}, 1001, api.Tally{}, api.ErrArg)
	checkTake(t, api.Tally{Kind: kindC, Size: 1, M: 1, Sum: 7}, 0, api.Tally{Kind: kindC, Size: 1, M: 2, Sum: 7}, api.OK)
	checkTake(t, api.Tally{Kind: kindC, Size: 1, M: 1, Sum: 7}, million, api.Tally{Kind: kindC, Size: 1, M: 2, Sum: million + 7}, api.OK)
	checkTake(t, api.Tally{Kind: kindU, Size: 3, M: 2, Sum: 5}, 9, api.Tally{Kind: kindU, Size: 3, M: 3, Sum: 14}, api.OK)
	checkTake(t, api.Tally{Kind: kindU, Size: 3, M: 2, Sum: 5}, million+1, api.Tally{}, api.ErrArg)
}

// P16.2: a full tally tells so, with the zero tally beside it, but where the count is none: that is told first.
func TestTakeOfFullTallies(t *testing.T) {
	for _, kind := range kinds() {
		for _, size := range sizes(kind) {
			most := mostOf(kind, size)
			for _, sum := range []int{0, 1, 25 * most} {
				held := api.Tally{Kind: kind, Size: size, M: 25, Sum: sum}
				for _, d := range []int{0, 1, most} {
					checkTake(t, held, d, api.Tally{}, api.ErrFull)
				}
				for _, d := range []int{-1, most + 1, least, highest} {
					checkTake(t, held, d, api.Tally{}, api.ErrArg)
				}
			}
		}
	}
}

// P16.2: up to 25 counts are taken, one behind the other, and no more.
func TestTakeTillFull(t *testing.T) {
	draw := rand.New(rand.NewSource(2))
	for _, kind := range kinds() {
		for _, size := range sizes(kind) {
			held, _ := New(kind, size)
			for range 25 {
				d := draw.Intn(mostOf(kind, size) + 1)
				checkTakes(t, held, d)
				held, _ = Take(held, d)
			}
			checkRight(t, held, true)
			checkTake(t, held, 0, api.Tally{}, api.ErrFull)
		}
	}
}
