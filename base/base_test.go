package base

import (
	"math"
	"math/big"
	"math/rand"
	"slices"
	"testing"

	"datum/api"
)

const (
	least    = math.MinInt
	greatest = math.MaxInt
	million  = 1000000
	farthest = 2 * million
)

// isIn is whether x is from low to high, all of any size.
func isIn(x int, low, high *big.Int) bool {
	held := big.NewInt(int64(x))
	return low.Cmp(held) <= 0 && held.Cmp(high) <= 0
}

// product is what the numbers are, multiplied.
func product(l ...int) *big.Int {
	all := big.NewInt(1)
	for _, x := range l {
		all.Mul(all, big.NewInt(int64(x)))
	}
	return all
}

// mayBe is whether the base may be, as the chapter's words say it.
func mayBe(b api.Base) bool {
	size := isIn(b.Size, big.NewInt(1), big.NewInt(10))
	m := isIn(b.M, big.NewInt(0), big.NewInt(25))
	sum := isIn(b.Sum, product(b.M, b.Size, -million), product(b.M, b.Size, million))
	times := b.M
	if b.Size == 1 && b.M > 0 {
		times--
	}
	ranges := isIn(b.Ranges, big.NewInt(0), product(2, million, times))
	last := isIn(b.Last, big.NewInt(-million), big.NewInt(million))
	if b.M == 0 {
		last = b.Last == 0
	}
	return size && m && sum && ranges && last
}

// mostRanges is the most that all ranges are of a base with m rows.
func mostRanges(size, m int) int {
	if size == 1 && m > 0 {
		return (m - 1) * farthest
	}
	return m * farthest
}

// isBeyond is whether x is no sample.
func isBeyond(x int) bool { return x < -million || million < x }

// reckonedTake is what Take is to tell, found apart from the program.
func reckonedTake(b api.Base, row []int) (api.Base, api.Errno) {
	if !mayBe(b) || len(row) != b.Size || slices.ContainsFunc(row, isBeyond) {
		return api.Base{}, api.ErrArg
	}
	if b.M == 25 {
		return api.Base{}, api.ErrFull
	}
	// A range is the farthest that two are apart, of single samples the last one and that behind it.
	held := row
	if b.Size == 1 && b.M > 0 {
		held = []int{b.Last, row[0]}
	}
	far, sum := 0, b.Sum
	for _, x := range held {
		for _, y := range held {
			far = max(far, x-y)
		}
	}
	for _, x := range row {
		sum += x
	}
	return api.Base{Size: b.Size, M: b.M + 1, Sum: sum, Ranges: b.Ranges + far, Last: row[len(row)-1]}, api.OK
}

// checkRight holds Right's answer against what is wanted, and the chapter's words against both.
func checkRight(t *testing.T, b api.Base, want bool) {
	t.Helper()
	if got := Right(b); got != want || mayBe(b) != want {
		t.Errorf("Right(%v) = %t; want %t, by the chapter's words %t", b, got, want, mayBe(b))
	}
}

// checkTake holds Take's answer against what is wanted.
func checkTake(t *testing.T, b api.Base, row []int, want api.Base, why api.Errno) {
	t.Helper()
	if got, told := Take(b, row); got != want || told != why {
		t.Errorf("Take(%v, %v) = %v, %d; want %v, %d", b, row, got, told, want, why)
	}
}

// checkTakes holds Take's answer against what is reckoned.
func checkTakes(t *testing.T, b api.Base, row []int) {
	t.Helper()
	want, why := reckonedTake(b, row)
	checkTake(t, b, row, want, why)
}

// rightBases are bases of every size with few rows and with many, with sums and ranges at both ends and between.
func rightBases() []api.Base {
	var l []api.Base
	for size := 1; size <= 10; size++ {
		l = append(l, api.Base{Size: size})
		for _, m := range []int{1, 2, 3, 7, 24, 25} {
			far, wide := m*size*million, mostRanges(size, m)
			l = append(l,
				api.Base{Size: size, M: m},
				api.Base{Size: size, M: m, Sum: far, Last: million},
				api.Base{Size: size, M: m, Sum: -far, Last: -million},
				api.Base{Size: size, M: m, Sum: 1, Ranges: wide, Last: 1},
				api.Base{Size: size, M: m, Sum: -far / 2, Ranges: wide / 3, Last: -7},
			)
		}
	}
	return l
}

// wrongBases are bases that may not be, each with one field beyond one of its ends.
func wrongBases() []api.Base {
	l := []api.Base{{}, {Size: -1}, {Size: 11}, {Size: least}, {Size: greatest}}
	for _, x := range []int{-1, 26, least, greatest} {
		l = append(l, api.Base{Size: 2, M: x}, api.Base{Size: 1, M: x})
	}
	for _, size := range []int{1, 2, 10} {
		for _, m := range []int{0, 1, 2, 25} {
			far, wide := m*size*million, mostRanges(size, m)
			for _, x := range []int{far + 1, -far - 1, least, greatest} {
				l = append(l, api.Base{Size: size, M: m, Sum: x})
			}
			for _, x := range []int{-1, wide + 1, least, greatest} {
				l = append(l, api.Base{Size: size, M: m, Ranges: x})
			}
			for _, x := range []int{-million - 1, million + 1, least, greatest} {
				l = append(l, api.Base{Size: size, M: m, Last: x})
			}
		}
		for _, x := range []int{-million, -1, 1, million} {
			l = append(l, api.Base{Size: size, Last: x})
		}
	}
	return l
}

// P15.1: Right is whether the base may be: each field at both its ends, and one beyond them.
func TestRightEnds(t *testing.T) {
	for _, b := range rightBases() {
		checkRight(t, b, true)
	}
	for _, b := range wrongBases() {
		checkRight(t, b, false)
	}
}

// P15.1: a size is 1 to 10, and how many rows came 0 to 25.
func TestRightSizes(t *testing.T) {
	for _, size := range []int{0, 1, 10, 11, -1, 2, least, greatest} {
		checkRight(t, api.Base{Size: size}, 1 <= size && size <= 10)
	}
	for _, m := range []int{-1, 0, 25, 26, 1, 24, least, greatest} {
		checkRight(t, api.Base{Size: 1, M: m}, 0 <= m && m <= 25)
		checkRight(t, api.Base{Size: 10, M: m}, 0 <= m && m <= 25)
	}
}

// P15.1: the sum is within M times Size times 10^6, whichever the size and however many rows came.
func TestRightSums(t *testing.T) {
	for size := 1; size <= 10; size++ {
		for m := 0; m <= 25; m++ {
			far := m * size * million
			for _, x := range []int{far - 1, far, far + 1} {
				checkRight(t, api.Base{Size: size, M: m, Sum: x}, -far <= x && x <= far)
				checkRight(t, api.Base{Size: size, M: m, Sum: -x}, -far <= x && x <= far)
			}
		}
	}
}

// P15.1: the ranges are 0 to 2 times 10^6, times how many there are, of single samples one less than came.
func TestRightRanges(t *testing.T) {
	for size := 1; size <= 10; size++ {
		for m := 0; m <= 25; m++ {
			wide := mostRanges(size, m)
			for _, x := range []int{-1, 0, 1, wide - 1, wide, wide + 1} {
				checkRight(t, api.Base{Size: size, M: m, Ranges: x}, 0 <= x && x <= wide)
			}
		}
	}
	for m, most := range []int{0, 0, farthest, 2 * farthest} {
		checkRight(t, api.Base{Size: 1, M: m, Ranges: most}, true)
		checkRight(t, api.Base{Size: 1, M: m, Ranges: most + 1}, false)
	}
	for m, most := range []int{0, farthest, 2 * farthest} {
		checkRight(t, api.Base{Size: 2, M: m, Ranges: most}, true)
		checkRight(t, api.Base{Size: 2, M: m, Ranges: most + 1}, false)
	}
}

// P15.1: the last sample is one, and 0 where no row came.
func TestRightLast(t *testing.T) {
	for size := 1; size <= 10; size++ {
		for _, x := range []int{-million - 1, -million, -1, 0, 1, million, million + 1, least, greatest} {
			checkRight(t, api.Base{Size: size, Last: x}, x == 0)
			checkRight(t, api.Base{Size: size, M: 1, Last: x}, -million <= x && x <= million)
			checkRight(t, api.Base{Size: size, M: 25, Last: x}, -million <= x && x <= million)
		}
	}
}

// P15.1: nothing wraps: fields about the ends of int, and such of which a product would come back between the ends, are told wrong.
func TestRightAtEndsOfInt(t *testing.T) {
	far := []int{least, least + 1, least / million, least / farthest, greatest / farthest, greatest / million, greatest - 1, greatest, 1 << 32, -1 << 32, 1 << 58, 1 << 63 / 125 << 1}
	for _, x := range far {
		checkRight(t, api.Base{Size: x}, false)
		checkRight(t, api.Base{Size: x, M: 2, Sum: 2, Ranges: 2}, false)
		checkRight(t, api.Base{Size: 2, M: x}, false)
		checkRight(t, api.Base{Size: 1, M: x, Sum: 2, Ranges: 2}, false)
		checkRight(t, api.Base{Size: 10, M: 25, Sum: x}, false)
		checkRight(t, api.Base{Size: 10, M: 25, Ranges: x}, false)
		checkRight(t, api.Base{Size: 1, M: 25, Ranges: x}, false)
		checkRight(t, api.Base{Size: 10, M: 25, Last: x}, false)
		checkRight(t, api.Base{Size: x, M: x, Sum: x, Ranges: x, Last: x}, false)
	}
}

// P15.1: drawn bases, near all ends, are told as the chapter's words say.
func TestRightDrawn(t *testing.T) {
	draw := rand.New(rand.NewSource(1))
	about := func(x int) int { return x - 1 + draw.Intn(3) }
	for range 50000 {
		size, m := draw.Intn(12), draw.Intn(28)-1
		b := api.Base{
			Size:   size,
			M:      m,
			Sum:    about(m * size * million * (draw.Intn(3) - 1)),
			Ranges: about(mostRanges(size, m) * draw.Intn(2)),
			Last:   about(million * (draw.Intn(3) - 1)),
		}
		checkRight(t, b, mayBe(b))
	}
}

// P15.1: New is a base of no rows, or ErrArg of what is no size.
func TestNew(t *testing.T) {
	for size := 1; size <= 10; size++ {
		if b, why := New(size); b != (api.Base{Size: size}) || why != api.OK {
			t.Errorf("New(%d) = %v, %d", size, b, why)
		}
		b, _ := New(size)
		checkRight(t, b, true)
	}
	for _, size := range []int{-1, 0, 11, 12, -10, least, least + 1, greatest - 1, greatest, 1<<32 + 1} {
		if b, why := New(size); b != (api.Base{}) || why != api.ErrArg {
			t.Errorf("New(%d) = %v, %d; want the zero base, ErrArg", size, b, why)
		}
	}
}

// P15.1: of a base that may not be, all others tell ErrArg, and zero beside it.
func TestBasesThatMayNotBe(t *testing.T) {
	for _, b := range wrongBases() {
		for _, row := range [][]int{nil, {}, {1}, {1, 2}, make([]int, 10), {greatest}} {
			checkTake(t, b, row, api.Base{}, api.ErrArg)
		}
		for _, x := range []int{0, 1, -1, million, farthest, least, greatest} {
			checkPoint(t, b, x, api.Point{}, api.ErrArg)
			checkWide(t, b, x, 0, api.ErrArg)
		}
	}
}

// rowsOf are rows of the size: the greatest and the least sample at each place, all the same, and drawn ones.
func rowsOf(size int, draw *rand.Rand) [][]int {
	var l [][]int
	for _, x := range []int{-million, -1, 0, 1, 5, million} {
		l = append(l, slices.Repeat([]int{x}, size))
	}
	for i := range size {
		for j := range size {
			row := slices.Repeat([]int{3}, size)
			row[i], row[j] = million, -million
			other := slices.Repeat([]int{3}, size)
			other[i], other[j] = 2, 9
			l = append(l, row, other)
		}
	}
	for range 50 {
		row := make([]int, size)
		for i := range row {
			row[i] = draw.Intn(farthest+1) - million
		}
		l = append(l, row)
	}
	return l
}

// P15.2: rows of each size, onto bases of that size: M is one more, Sum more by the samples, Ranges by the row's range, and Last its last sample.
func TestTakeRows(t *testing.T) {
	draw := rand.New(rand.NewSource(2))
	for _, b := range rightBases() {
		for _, row := range rowsOf(b.Size, draw) {
			checkTakes(t, b, row)
			if then, why := Take(b, row); why == api.OK {
				checkRight(t, then, true)
			}
		}
	}
}

// P15.2: rows, and what is taken of them, by hand.
func TestTakeByHand(t *testing.T) {
	b := api.Base{Size: 2}
	checkTake(t, b, []int{1, 3}, api.Base{Size: 2, M: 1, Sum: 4, Ranges: 2, Last: 3}, api.OK)
	b = api.Base{Size: 2, M: 1, Sum: 4, Ranges: 2, Last: 3}
	checkTake(t, b, []int{2, 6}, api.Base{Size: 2, M: 2, Sum: 12, Ranges: 6, Last: 6}, api.OK)
	checkTake(t, b, []int{6, 2}, api.Base{Size: 2, M: 2, Sum: 12, Ranges: 6, Last: 2}, api.OK)
	checkTake(t, b, []int{-6, -2}, api.Base{Size: 2, M: 2, Sum: -4, Ranges: 6, Last: -2}, api.OK)
	checkTake(t, b, []int{9, 9}, api.Base{Size: 2, M: 2, Sum: 22, Ranges: 2, Last: 9}, api.OK)
	b = api.Base{Size: 5, M: 24, Sum: 1, Ranges: 1, Last: 1}
	checkTake(t, b, []int{3, -4, 0, 8, 1}, api.Base{Size: 5, M: 25, Sum: 9, Ranges: 13, Last: 1}, api.OK)
}

// P15.2: the range of a single sample is how far it is from the last one, and 0 where none came; one that is 0 is a sample as well.
func TestTakeSingles(t *testing.T) {
	none := api.Base{Size: 1}
	for _, x := range []int{-million, -7, 0, 7, million} {
		checkTake(t, none, []int{x}, api.Base{Size: 1, M: 1, Sum: x, Last: x}, api.OK)
	}
	one := api.Base{Size: 1, M: 1, Sum: 5, Last: 5}
	checkTake(t, one, []int{7}, api.Base{Size: 1, M: 2, Sum: 12, Ranges: 2, Last: 7}, api.OK)
	checkTake(t, one, []int{5}, api.Base{Size: 1, M: 2, Sum: 10, Ranges: 0, Last: 5}, api.OK)
	checkTake(t, one, []int{-4}, api.Base{Size: 1, M: 2, Sum: 1, Ranges: 9, Last: -4}, api.OK)
	two := api.Base{Size: 1, M: 2, Sum: -million, Ranges: million, Last: -million}
	checkTake(t, two, []int{million}, api.Base{Size: 1, M: 3, Sum: 0, Ranges: 3 * million, Last: million}, api.OK)
	zero := api.Base{Size: 1, M: 1}
	checkTake(t, zero, []int{-9}, api.Base{Size: 1, M: 2, Sum: -9, Ranges: 9, Last: -9}, api.OK)
}

// P15.2: a row of one sample too few, too many, or none is none, and so is one with a number beyond a sample's ends at any place; a full base tells so of a row that is one alone.
func TestTakeRowsThatAreNone(t *testing.T) {
	for _, b := range rightBases() {
		for _, n := range []int{0, b.Size - 1, b.Size + 1, 2 * b.Size, 100} {
			checkTake(t, b, make([]int, n), api.Base{}, api.ErrArg)
		}
		checkTake(t, b, nil, api.Base{}, api.ErrArg)
		for i := range b.Size {
			for _, x := range []int{-million - 1, million + 1, least, greatest, least + 1, greatest - 1} {
				row := make([]int, b.Size)
				row[i] = x
				checkTake(t, b, row, api.Base{}, api.ErrArg)
			}
		}
		if b.M == 25 {
			checkTake(t, b, make([]int, b.Size), api.Base{}, api.ErrFull)
		}
	}
}

// R4: a row stays as it was, and so does what lies behind it.
func TestTakeChangesNothing(t *testing.T) {
	for size := 1; size <= 10; size++ {
		all := []int{3, 9, -2, 7, 7, 0, 1, -5, 4, 8, 6, 5}
		before := slices.Clone(all)
		b := api.Base{Size: size, M: 2, Sum: 1, Ranges: 4, Last: 1}
		first, why := Take(b, all[:size])
		again, told := Take(b, all[:size])
		if !slices.Equal(all, before) || first != again || why != api.OK || told != api.OK {
			t.Errorf("Take of size %d: %v then, %v, %v", size, all, first, again)
		}
	}
}

// P15.2: up to 25 rows are taken, one behind the other, and no more.
func TestTakeTillFull(t *testing.T) {
	draw := rand.New(rand.NewSource(3))
	for size := 1; size <= 10; size++ {
		b, _ := New(size)
		for range 25 {
			row := make([]int, size)
			for i := range row {
				row[i] = draw.Intn(farthest+1) - million
			}
			checkTakes(t, b, row)
			b, _ = Take(b, row)
		}
		checkTake(t, b, make([]int, size), api.Base{}, api.ErrFull)
		checkRight(t, b, true)
	}
}
