package tally

import (
	"math/big"
	"math/rand"
	"slices"
	"sync"
	"testing"

	"datum/api"
)

// wideOf is the big integer, from 0 to 2^128 - 1, as a wide number.
func wideOf(x *big.Int) api.W {
	low := new(big.Int).And(x, new(big.Int).SetUint64(1<<64-1))
	return api.W{Hi: new(big.Int).Rsh(x, 64).Uint64(), Lo: low.Uint64()}
}

// bigOf is the wide number as a big integer.
func bigOf(x api.W) *big.Int {
	all := new(big.Int).SetUint64(x.Hi)
	return all.Add(all.Lsh(all, 64), new(big.Int).SetUint64(x.Lo))
}

// reckonedPoint is what Point is to tell, found apart from the program.
func reckonedPoint(t api.Tally, d int) (api.Point, api.Errno) {
	if !mayBe(t) || !isOne(t, d) {
		return api.Point{}, api.ErrArg
	}
	if t.M == 0 {
		return api.Point{}, api.ErrState
	}
	n, all := t.Size, t.M*t.Size
	byUnits := wideOf(product(t.Sum, all-t.Sum, n))
	switch t.Kind {
	case kindP:
		return api.Point{Den: all * n, Center: t.Sum * n, Dev: d*all - t.Sum*n, Var: byUnits}, api.OK
	case kindNp:
		return api.Point{Den: all, Center: t.Sum * n, Dev: d*all - t.Sum*n, Var: byUnits}, api.OK
	}
	return api.Point{Den: all, Center: t.Sum, Dev: d*t.M - t.Sum, Var: wideOf(product(t.Sum, t.M))}, api.OK
}

// checkPoint holds Point's answer against what is wanted.
func checkPoint(t *testing.T, held api.Tally, d int, want api.Point, why api.Errno) {
	t.Helper()
	if got, told := Point(held, d); got != want || told != why {
		t.Errorf("Point(%v, %d) = %v, %d; want %v, %d", held, d, got, told, want, why)
	}
}

// checkPoints holds Point's answer against what is reckoned.
func checkPoints(t *testing.T, held api.Tally, d int) {
	t.Helper()
	want, why := reckonedPoint(held, d)
	checkPoint(t, held, d, want, why)
}

// counted is the tally of the counts.
func counted(t *testing.T, kind, size int, counts ...int) api.Tally {
	t.Helper()
	held, why := New(kind, size)
	for _, d := range counts {
		if why == api.OK {
			held, why = Take(held, d)
		}
	}
	if why != api.OK {
		t.Fatalf("counts of kind %d and size %d, %v: %d", kind, size, counts, why)
	}
	return held
}

// drawnTally is a tally that may be, drawn, and a count of it.
func drawnTally(draw *rand.Rand) (api.Tally, int) {
	kind := kinds()[draw.Intn(4)]
	size := 1 + draw.Intn(thousand)
	if kind == kindC {
		size = 1
	}
	m := draw.Intn(26)
	most := mostOf(kind, size)
	return api.Tally{Kind: kind, Size: size, M: m, Sum: draw.Intn(m*most + 1)}, draw.Intn(most + 1)
}

// The chapter's examples: shares of ten, and what is counted on one unit.
func TestExamples(t *testing.T) {
	shares := counted(t, kindP, 10, 1, 3)
	if shares != (api.Tally{Kind: kindP, Size: 10, M: 2, Sum: 4}) {
		t.Errorf("shares of 1 and 3: %v", shares)
	}
	checkPoint(t, shares, 3, api.Point{Den: 200, Center: 40, Dev: 20, Var: api.W{Lo: 640}}, api.OK)
	often := counted(t, kindC, 1, 1, 3)
	if often != (api.Tally{Kind: kindC, Size: 1, M: 2, Sum: 4}) {
		t.Errorf("counts of 1 and 3: %v", often)
	}
	checkPoint(t, often, 3, api.Point{Den: 2, Center: 4, Dev: 2, Var: api.W{Lo: 8}}, api.OK)
}

// P16.2: points by hand, of each kind, with one count and with 25, of the least size and of the greatest.
func TestPointByHand(t *testing.T) {
	checkPoint(t, counted(t, kindNp, 10, 1, 3), 3, api.Point{Den: 20, Center: 40, Dev: 20, Var: api.W{Lo: 640}}, api.OK)
	checkPoint(t, counted(t, kindU, 10, 1, 3), 3, api.Point{Den: 20, Center: 4, Dev: 2, Var: api.W{Lo: 8}}, api.OK)
	checkPoint(t, counted(t, kindP, 1, 1), 0, api.Point{Den: 1, Center: 1, Dev: -1}, api.OK)
	checkPoint(t, counted(t, kindNp, 5, 2), 5, api.Point{Den: 5, Center: 10, Dev: 15, Var: api.W{Lo: 30}}, api.OK)
	checkPoint(t, counted(t, kindP, 5, 2), 0, api.Point{Den: 25, Center: 10, Dev: -10, Var: api.W{Lo: 30}}, api.OK)
	checkPoint(t, counted(t, kindC, 1, million), 0, api.Point{Den: 1, Center: million, Dev: -million, Var: api.W{Lo: million}}, api.OK)
	checkPoint(t, counted(t, kindU, 4, 6), 7, api.Point{Den: 4, Center: 6, Dev: 1, Var: api.W{Lo: 6}}, api.OK)

	half := api.Tally{Kind: kindP, Size: 1000, M: 25, Sum: 12500}
	checkPoint(t, half, 1000, api.Point{Den: 25000000, Center: 12500000, Dev: 12500000, Var: api.W{Lo: 156250000000}}, api.OK)
	half.Kind = kindNp
	checkPoint(t, half, 0, api.Point{Den: 25000, Center: 12500000, Dev: -12500000, Var: api.W{Lo: 156250000000}}, api.OK)
	full := api.Tally{Kind: kindU, Size: 1000, M: 25, Sum: 25000000}
	checkPoint(t, full, 0, api.Point{Den: 25000, Center: 25000000, Dev: -25000000, Var: api.W{Lo: 625000000}}, api.OK)
	checkPoint(t, api.Tally{Kind: kindC, Size: 1, M: 25, Sum: 1}, million, api.Point{Den: 25, Center: 1, Dev: 24999999, Var: api.W{Lo: 25}}, api.OK)
}

// P16.2: points of tallies of every kind, at the least count, the greatest, and between.
func TestPoints(t *testing.T) {
	for _, held := range rightTallies() {
		most := mostOf(held.Kind, held.Size)
		for _, d := range []int{0, 1, most / 3, most / 2, most - 1, most} {
			checkPoints(t, held, d)
		}
	}
}

// P16.2: every small tally of a kind, with all of its counts.
func TestPointsOfSmallTallies(t *testing.T) {
	for _, kind := range kinds() {
		for size := 1; size <= 5; size++ {
			if kind == kindC && size > 1 {
				continue
			}
			for m := 1; m <= 4; m++ {
				for sum := 0; sum <= m*size; sum++ {
					for d := 0; d <= size; d++ {
						checkPoints(t, api.Tally{Kind: kind, Size: size, M: m, Sum: sum}, d)
					}
				}
			}
		}
	}
}

// P16.2: drawn tallies and counts.
func TestPointsDrawn(t *testing.T) {
	draw := rand.New(rand.NewSource(3))
	for range 20000 {
		held, d := drawnTally(draw)
		checkPoints(t, held, d)
	}
}

// P16.1, P16.2: of what is no count, Point tells ErrArg, and of a tally without counts ErrState, but ErrArg first; the zero point beside both.
func TestPointErrors(t *testing.T) {
	for _, held := range rightTallies() {
		for _, d := range wrongCounts(held.Kind, held.Size) {
			checkPoint(t, held, d, api.Point{}, api.ErrArg)
		}
	}
	for _, kind := range kinds() {
		for _, size := range sizes(kind) {
			most := mostOf(kind, size)
			held := api.Tally{Kind: kind, Size: size}
			for _, d := range []int{0, 1, most / 2, most} {
				checkPoint(t, held, d, api.Point{}, api.ErrState)
			}
			for _, d := range []int{-1, most + 1, least, highest} {
				checkPoint(t, held, d, api.Point{}, api.ErrArg)
			}
		}
	}
}

// checkRatio holds a number, divided by another, against what is wanted.
func checkRatio(t *testing.T, name string, held api.Tally, num, den *big.Int, want *big.Rat) {
	t.Helper()
	if got := new(big.Rat).SetFrac(num, den); got.Cmp(want) != 0 {
		t.Errorf("%s of %v is %v; want %v", name, held, got, want)
	}
}

// P16.2: a point's value is the count, divided by the units of shares; its middle is the mean of all values; and its spread that of the kind: p (1 - p) by n of shares, n p (1 - p) of how many, the mean itself of what is counted on units, divided by them.
func TestWhatPointsMean(t *testing.T) {
	draw := rand.New(rand.NewSource(4))
	for range 5000 {
		held, d := drawnTally(draw)
		if held.M == 0 {
			continue
		}
		p, _ := Point(held, d)
		n, one := int64(held.Size), int64(1)
		if held.Kind == kindP || held.Kind == kindU {
			one = n
		}
		den := big.NewInt(int64(p.Den))
		mean := big.NewRat(int64(held.Sum), int64(held.M)*one)
		checkRatio(t, "the value", held, big.NewInt(int64(p.Center+p.Dev)), den, big.NewRat(int64(d), one))
		checkRatio(t, "the middle", held, big.NewInt(int64(p.Center)), den, mean)
		spread := new(big.Rat).Mul(mean, big.NewRat(1, one))
		if held.Kind == kindP || held.Kind == kindNp {
			part := big.NewRat(int64(held.Sum), int64(held.M)*n)
			rest := new(big.Rat).Sub(big.NewRat(1, 1), part)
			spread = part.Mul(part, rest).Mul(part, big.NewRat(n, one*one))
		}
		checkRatio(t, "the spread", held, bigOf(p.Var), new(big.Int).Mul(den, den), spread)
	}
}

// P16.3: the order of counts does not matter.
func TestOrderOfCounts(t *testing.T) {
	draw := rand.New(rand.NewSource(5))
	for range 500 {
		held, d := drawnTally(draw)
		most := mostOf(held.Kind, held.Size)
		counts := make([]int, held.M)
		for i := range counts {
			counts[i] = draw.Intn(most + 1)
		}
		first := counted(t, held.Kind, held.Size, counts...)
		point, why := Point(first, d)
		for range 5 {
			draw.Shuffle(len(counts), func(i, j int) { counts[i], counts[j] = counts[j], counts[i] })
			again := counted(t, held.Kind, held.Size, counts...)
			if again != first {
				t.Fatalf("counts %v: %v, in another order %v", counts, again, first)
			}
			checkPoint(t, again, d, point, why)
		}
	}
	counts := []int{0, 1, 5, 9}
	slices.Reverse(counts)
	if up, down := counted(t, kindP, 9, 0, 1, 5, 9), counted(t, kindP, 9, counts...); up != down {
		t.Errorf("counts up: %v, and down: %v", up, down)
	}
}

// isAsFar is whether two points are as many of their spreads from the middle, on the same side of it.
func isAsFar(p, q api.Point) bool {
	side := big.NewInt(int64(p.Dev)).Sign() == big.NewInt(int64(q.Dev)).Sign()
	one := new(big.Int).Mul(product(p.Dev, p.Dev), bigOf(q.Var))
	other := new(big.Int).Mul(product(q.Dev, q.Dev), bigOf(p.Var))
	flat := (p.Var == api.W{}) == (q.Var == api.W{})
	return side && flat && one.Cmp(other) == 0
}

// P16.3: a chart of shares and one of how many, of the same counts, have points as far out; so have those of what is counted on one unit and on several.
func TestSharesAndHowMany(t *testing.T) {
	draw := rand.New(rand.NewSource(6))
	for _, pair := range [][2]int{{kindP, kindNp}, {kindU, kindC}} {
		for range 5000 {
			size := 1 + draw.Intn(thousand)
			other := size
			if pair[1] == kindC {
				other = 1
			}
			m, most := 1+draw.Intn(25), mostOf(pair[0], size)
			sum, d := draw.Intn(m*most+1), draw.Intn(most+1)
			p, why := Point(api.Tally{Kind: pair[0], Size: size, M: m, Sum: sum}, d)
			q, told := Point(api.Tally{Kind: pair[1], Size: other, M: m, Sum: sum}, d)
			if why != api.OK || told != api.OK || !isAsFar(p, q) {
				t.Errorf("kinds %v of %d, %d counts of %d together, count %d: %v, %d and %v, %d", pair, size, m, sum, d, p, why, q, told)
			}
		}
	}
}

// P16.3: a count that is the mean has Dev 0, and no other has: those above it have more, those below it less.
func TestMean(t *testing.T) {
	draw := rand.New(rand.NewSource(7))
	for range 3000 {
		held, mean := drawnTally(draw)
		if held.M == 0 {
			continue
		}
		held.Sum = mean * held.M
		most := mostOf(held.Kind, held.Size)
		for _, d := range []int{0, mean - 1, mean, mean + 1, most} {
			if d < 0 || most < d {
				continue
			}
			p, why := Point(held, d)
			if why != api.OK || (p.Dev > 0) != (d > mean) || (p.Dev < 0) != (d < mean) {
				t.Errorf("Point(%v, %d) = %v, %d, where %d is the mean", held, d, p, why, mean)
			}
		}
	}
}

// P16.3: where the mean is no whole number, no count has Dev 0.
func TestMeanBetweenCounts(t *testing.T) {
	for _, kind := range kinds() {
		size := 9
		if kind == kindC {
			size = 1
		}
		for m := 2; m <= 25; m++ {
			held := api.Tally{Kind: kind, Size: size, M: m, Sum: m - 1}
			for d := range min(9, mostOf(kind, size)) + 1 {
				if p, why := Point(held, d); why != api.OK || p.Dev == 0 || (p.Dev > 0) != (d > 0) {
					t.Errorf("Point(%v, %d) = %v, %d", held, d, p, why)
				}
			}
		}
	}
}

// P16.3: Var is 0 where all counts were 0, or all units were counted, and nowhere else.
func TestNoSpread(t *testing.T) {
	for _, kind := range kinds() {
		for _, size := range sizes(kind) {
			most := mostOf(kind, size)
			for m := 1; m <= 25; m++ {
				for _, sum := range []int{0, 1, m*most - 1, m * most} {
					flat := sum == 0 || sum == m*most && most == size && (kind == kindP || kind == kindNp)
					for _, d := range []int{0, most} {
						p, why := Point(api.Tally{Kind: kind, Size: size, M: m, Sum: sum}, d)
						if why != api.OK || (p.Var == api.W{}) != flat {
							t.Errorf("kind %d of %d, %d counts of %d together: %v, %d; flat: %t", kind, size, m, sum, p, why, flat)
						}
					}
				}
			}
		}
	}
	zero := counted(t, kindP, 7, 0, 0, 0)
	checkPoint(t, zero, 0, api.Point{Den: 147}, api.OK)
	all := counted(t, kindNp, 7, 7, 7, 7)
	checkPoint(t, all, 7, api.Point{Den: 21, Center: 147}, api.OK)
}

// questions are calls with their right answers, refused ones among them.
func questions() []func() bool {
	var l []func() bool
	draw := rand.New(rand.NewSource(8))
	wrong := wrongTallies()
	for i := range 300 {
		held, d := drawnTally(draw)
		none, no := wrong[i%len(wrong)], wrongCounts(held.Kind, held.Size)[i%10]
		then, full := reckonedTake(held, d)
		p, early := reckonedPoint(held, d)
		l = append(l, func() bool {
			got, why := Take(held, d)
			return got == then && why == full
		}, func() bool {
			got, why := Point(held, d)
			return got == p && why == early
		}, func() bool {
			got, why := New(held.Kind, held.Size)
			return got == api.Tally{Kind: held.Kind, Size: held.Size} && why == api.OK && Right(held) && !Right(none)
		}, func() bool {
			got, why := Take(none, d)
			point, told := Point(none, d)
			return got == api.Tally{} && why == api.ErrArg && point == api.Point{} && told == api.ErrArg
		}, func() bool {
			got, why := Take(held, no)
			point, told := Point(held, no)
			return got == api.Tally{} && why == api.ErrArg && point == api.Point{} && told == api.ErrArg
		})
	}
	return l
}

// R1: calls in any order, many times over, answer the same.
func TestCallsInAnyOrder(t *testing.T) {
	draw := rand.New(rand.NewSource(9))
	l := questions()
	for range 20 {
		for _, i := range draw.Perm(len(l)) {
			if !l[i]() {
				t.Fatalf("question %d has another answer", i)
			}
		}
	}
}

// R1: calls of several goroutines at once answer the same.
func TestCallsAtOnce(t *testing.T) {
	l := questions()
	var begun, ended sync.WaitGroup
	begun.Add(1)
	for g := range 16 {
		ended.Go(func() {
			begun.Wait()
			draw := rand.New(rand.NewSource(int64(g)))
			for range 10 {
				for _, i := range draw.Perm(len(l)) {
					if !l[i]() {
						t.Errorf("question %d has another answer in goroutine %d", i, g)
						return
					}
				}
			}
		})
	}
	begun.Done()
	ended.Wait()
}
