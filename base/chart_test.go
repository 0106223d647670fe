package base

import (
	"math/big"
	"math/rand"
	"slices"
	"sync"
	"testing"

	"datum/api"
)

// The factors of rows of 2 to 10 samples, as chapter 9 has them.
var (
	a2 = []int{18800, 10230, 7290, 5770, 4830, 4190, 3730, 3370, 3080}
	d3 = []int{0, 0, 0, 0, 0, 760, 1360, 1840, 2230}
	d4 = []int{32670, 25740, 22820, 21140, 20040, 19240, 18640, 18160, 17770}
)

// wideOf is the big integer, from 0 to 2^128 - 1, as a wide number.
func wideOf(x *big.Int) api.W {
	low := new(big.Int).And(x, new(big.Int).SetUint64(1<<64-1))
	return api.W{Hi: new(big.Int).Rsh(x, 64).Uint64(), Lo: low.Uint64()}
}

// squareOf is what the numbers are, multiplied, and that multiplied by itself.
func squareOf(l ...int) api.W {
	root := product(l...)
	return wideOf(root.Mul(root, root))
}

// reckonedPoint is what Point is to tell, found apart from the program.
func reckonedPoint(b api.Base, s int) (api.Point, api.Errno) {
	if !mayBe(b) || !isIn(s, product(b.Size, -million), product(b.Size, million)) {
		return api.Point{}, api.ErrArg
	}
	if b.M < 2 {
		return api.Point{}, api.ErrState
	}
	m, n := b.M, b.Size
	if n == 1 {
		return api.Point{
			Den:    11280 * m * (m - 1),
			Center: 11280 * (m - 1) * b.Sum,
			Dev:    11280 * (m - 1) * (s*m - b.Sum),
			Var:    squareOf(10000, m, b.Ranges),
		}, api.OK
	}
	return api.Point{
		Den:    30000 * m * n,
		Center: 30000 * b.Sum,
		Dev:    30000 * (s*m - b.Sum),
		Var:    squareOf(a2[n-2], b.Ranges, n),
	}, api.OK
}

// lines are the factors by which a base's ranges are held against a range, and how many ranges there are.
func lines(b api.Base) (lower, upper, ranges int) {
	if b.Size == 1 {
		return 0, 32670, b.M - 1
	}
	return d3[b.Size-2], d4[b.Size-2], b.M
}

// reckonedWide is what Wide is to tell, found apart from the program.
func reckonedWide(b api.Base, r int) (int, api.Errno) {
	if !mayBe(b) || !isIn(r, big.NewInt(0), big.NewInt(farthest)) {
		return 0, api.ErrArg
	}
	if b.M < 2 {
		return 0, api.ErrState
	}
	lower, upper, ranges := lines(b)
	all := product(r, ranges, 10000)
	if all.Cmp(product(upper, b.Ranges)) > 0 {
		return 1, api.OK
	}
	if all.Cmp(product(lower, b.Ranges)) < 0 {
		return -1, api.OK
	}
	return 0, api.OK
}

// checkPoint holds Point's answer against what is wanted.
func checkPoint(t *testing.T, b api.Base, s int, want api.Point, why api.Errno) {
	t.Helper()
	if got, told := Point(b, s); got != want || told != why {
		t.Errorf("Point(%v, %d) = %v, %d; want %v, %d", b, s, got, told, want, why)
	}
}

// checkPoints holds Point's answer against what is reckoned.
func checkPoints(t *testing.T, b api.Base, s int) {
	t.Helper()
	want, why := reckonedPoint(b, s)
	checkPoint(t, b, s, want, why)
}

// checkWide holds Wide's answer against what is wanted.
func checkWide(t *testing.T, b api.Base, r, want int, why api.Errno) {
	t.Helper()
	if got, told := Wide(b, r); got != want || told != why {
		t.Errorf("Wide(%v, %d) = %d, %d; want %d, %d", b, r, got, told, want, why)
	}
}

// checkWides holds Wide's answer against what is reckoned.
func checkWides(t *testing.T, b api.Base, r int) {
	t.Helper()
	want, why := reckonedWide(b, r)
	checkWide(t, b, r, want, why)
}

// learned is the base of the rows.
func learned(t *testing.T, size int, rows ...[]int) api.Base {
	t.Helper()
	b, why := New(size)
	for _, row := range rows {
		if why == api.OK {
			b, why = Take(b, row)
		}
	}
	if why != api.OK {
		t.Fatalf("rows of %d, %v: %d", size, rows, why)
	}
	return b
}

// The chapter's example: rows of two, and the point of a sum that is the mean's.
func TestExample(t *testing.T) {
	b := learned(t, 2, []int{1, 3}, []int{2, 6})
	if b.Sum != 12 || b.Ranges != 6 {
		t.Errorf("Sum %d, Ranges %d; want 12, 6", b.Sum, b.Ranges)
	}
	checkPoint(t, b, 6, api.Point{Den: 120000, Center: 360000, Dev: 0, Var: squareOf(225600)}, api.OK)
}

// P15.3: points by hand, of rows and of single samples.
func TestPointByHand(t *testing.T) {
	b := learned(t, 2, []int{1, 3}, []int{2, 6})
	checkPoint(t, b, 7, api.Point{Den: 120000, Center: 360000, Dev: 60000, Var: api.W{Lo: 50895360000}}, api.OK)
	checkPoint(t, b, 0, api.Point{Den: 120000, Center: 360000, Dev: -360000, Var: api.W{Lo: 50895360000}}, api.OK)
	single := learned(t, 1, []int{5}, []int{7}, []int{6})
	checkPoint(t, single, 8, api.Point{Den: 67680, Center: 406080, Dev: 135360, Var: api.W{Lo: 8100000000}}, api.OK)
	checkPoint(t, single, 6, api.Point{Den: 67680, Center: 406080, Dev: 0, Var: api.W{Lo: 8100000000}}, api.OK)
	pair := learned(t, 1, []int{5}, []int{7})
	checkPoint(t, pair, 100, api.Point{Den: 22560, Center: 135360, Dev: 2120640, Var: api.W{Lo: 1600000000}}, api.OK)
	five := api.Base{Size: 5, M: 3, Sum: -4, Ranges: 11, Last: 1}
	checkPoint(t, five, 2, api.Point{Den: 450000, Center: -120000, Dev: 300000, Var: squareOf(317350)}, api.OK)
}

// P15.3: points of every size, of few rows and of many, with sums and ranges at their ends, and values at theirs; sums beyond them are told ErrArg.
func TestPointEverySize(t *testing.T) {
	for _, b := range rightBases() {
		far := b.Size * million
		for _, s := range []int{-far - 1, -far, 1 - far, -1, 0, 1, 77, far - 1, far, far + 1, least, greatest, least + 1, greatest - 1} {
			checkPoints(t, b, s)
		}
	}
}

// P15.3: the greatest sums and ranges, of two rows and of 25.
func TestPointAtEnds(t *testing.T) {
	for size := 1; size <= 10; size++ {
		for _, m := range []int{2, 25} {
			far := size * million
			for _, sum := range []int{m * far, -m * far} {
				b := api.Base{Size: size, M: m, Sum: sum, Ranges: mostRanges(size, m), Last: million}
				for _, s := range []int{far, -far} {
					checkPoints(t, b, s)
					p, why := Point(b, s)
					if why != api.OK || p.Var.Hi >= 1<<60 || p.Den < 1 {
						t.Errorf("Point(%v, %d) = %v, %d", b, s, p, why)
					}
				}
			}
		}
	}
	b := api.Base{Size: 10, M: 25, Sum: -250 * million, Ranges: 50 * million}
	checkPoint(t, b, 10*million, api.Point{Den: 7500000, Center: -7500000 * million, Dev: 15000000 * million, Var: squareOf(1540000 * million)}, api.OK)
	single := api.Base{Size: 1, M: 25, Sum: 25 * million, Ranges: 48 * million}
	checkPoint(t, single, -million, api.Point{Den: 6768000, Center: 6768000 * million, Dev: -13536000 * million, Var: squareOf(12000000 * million)}, api.OK)
}

// P15.3: of fewer than two rows there is no point, and ErrState is told; of a sum that may not be, ErrArg goes ahead.
func TestPointOfFewRows(t *testing.T) {
	for size := 1; size <= 10; size++ {
		far := size * million
		for m := range 2 {
			b := api.Base{Size: size, M: m}
			for _, s := range []int{-far, 0, far} {
				checkPoint(t, b, s, api.Point{}, api.ErrState)
			}
			for _, s := range []int{-far - 1, far + 1, least, greatest} {
				checkPoint(t, b, s, api.Point{}, api.ErrArg)
			}
		}
		two := api.Base{Size: size, M: 2}
		checkPoint(t, two, far+1, api.Point{}, api.ErrArg)
		checkPoint(t, two, -far-1, api.Point{}, api.ErrArg)
		if p, why := Point(two, far); why != api.OK || p.Var != (api.W{}) || p.Dev <= 0 {
			t.Errorf("Point(%v, %d) = %v, %d", two, far, p, why)
		}
	}
}

// drawnBase is any base that may be.
func drawnBase(draw *rand.Rand) api.Base {
	size, m := 1+draw.Intn(10), draw.Intn(26)
	if m == 0 {
		return api.Base{Size: size}
	}
	far := m * size * million
	return api.Base{
		Size:   size,
		M:      m,
		Sum:    draw.Intn(2*far+1) - far,
		Ranges: draw.Intn(mostRanges(size, m) + 1),
		Last:   draw.Intn(farthest+1) - million,
	}
}

// P15.3, P15.4: drawn bases, values and ranges.
func TestDrawn(t *testing.T) {
	draw := rand.New(rand.NewSource(4))
	for range 30000 {
		b := drawnBase(draw)
		checkRight(t, b, true)
		far := b.Size * million
		checkPoints(t, b, draw.Intn(2*far+3)-far-1)
		checkWides(t, b, draw.Intn(farthest+3)-1)
		if b.M > 0 {
			checkWides(t, b, b.Ranges*draw.Intn(4)/b.M)
		}
	}
}

// P15.4: ranges of bases of every size, at their ends and beyond.
func TestWideEverySize(t *testing.T) {
	for _, b := range rightBases() {
		for _, r := range []int{-1, 0, 1, 2, 1000, million, farthest - 1, farthest, farthest + 1, least, greatest, least + 1, greatest - 1} {
			checkWides(t, b, r)
		}
	}
}

// P15.4: of fewer than two rows nothing is told but ErrState; of a range that may not be, ErrArg goes ahead.
func TestWideOfFewRows(t *testing.T) {
	for size := 1; size <= 10; size++ {
		for m := range 2 {
			b := api.Base{Size: size, M: m}
			for _, r := range []int{0, 1, farthest} {
				checkWide(t, b, r, 0, api.ErrState)
			}
			for _, r := range []int{-1, farthest + 1, least, greatest} {
				checkWide(t, b, r, 0, api.ErrArg)
			}
		}
		two := api.Base{Size: size, M: 2}
		checkWide(t, two, -1, 0, api.ErrArg)
		checkWide(t, two, farthest+1, 0, api.ErrArg)
		checkWide(t, two, 0, 0, api.OK)
		checkWide(t, two, 1, 1, api.OK)
	}
}

// P15.4: a range that is just at a line is not beyond it, and one beside it is, on both sides; so is one at that place where the ranges are one more or less.
func TestWideAtLines(t *testing.T) {
	for size := 1; size <= 10; size++ {
		for m := 2; m <= 25; m++ {
			lower, upper, ranges := lines(api.Base{Size: size, M: m})
			// Ranges of 1000 times as many have both lines at whole ranges.
			b := api.Base{Size: size, M: m, Ranges: 1000 * ranges}
			checkWide(t, b, upper/10, 0, api.OK)
			checkWide(t, b, upper/10+1, 1, api.OK)
			checkWide(t, b, upper/10-1, 0, api.OK)
			more, less := b, b
			more.Ranges++
			less.Ranges--
			checkWide(t, more, upper/10, 0, api.OK)
			checkWide(t, less, upper/10, 1, api.OK)
			checkWide(t, b, lower/10, 0, api.OK)
			checkWide(t, b, lower/10+1, 0, api.OK)
			checkWide(t, less, lower/10, 0, api.OK)
			if lower > 0 {
				checkWide(t, b, lower/10-1, -1, api.OK)
				checkWide(t, more, lower/10, -1, api.OK)
			}
			checkWide(t, b, 0, -min(1, lower), api.OK)
		}
	}
}

// P15.4: the ranges next to each line on both sides, of drawn bases, where the lines lie between ranges.
func TestWideBesideLines(t *testing.T) {
	draw := rand.New(rand.NewSource(5))
	for range 20000 {
		b := drawnBase(draw)
		if b.M < 2 {
			continue
		}
		lower, upper, ranges := lines(b)
		for _, f := range []int{lower, upper} {
			r := f * b.Ranges / (ranges * 10000)
			for _, x := range []int{r - 1, r, r + 1, r + 2} {
				checkWides(t, b, x)
			}
		}
	}
}

// P15.4: a base whose samples are all the same has any range but 0 told as wide.
func TestWideOfNoRanges(t *testing.T) {
	for size := 1; size <= 10; size++ {
		b := api.Base{Size: size, M: 25}
		checkWide(t, b, 0, 0, api.OK)
		checkWide(t, b, 1, 1, api.OK)
		checkWide(t, b, farthest, 1, api.OK)
		full := api.Base{Size: size, M: 25, Ranges: mostRanges(size, 25)}
		checkWide(t, full, farthest, 0, api.OK)
	}
}

// drawnRows are rows of samples from -most to most.
func drawnRows(draw *rand.Rand, size, rows, most int) [][]int {
	l := make([][]int, rows)
	for i := range l {
		l[i] = make([]int, size)
		for j := range l[i] {
			l[i][j] = draw.Intn(2*most+1) - most
		}
	}
	return l
}

// P15.5: the order of rows, and of a row's samples, does not matter, but for the last sample, which no point and no range is told by.
func TestOrder(t *testing.T) {
	draw := rand.New(rand.NewSource(6))
	for range 2000 {
		size := 2 + draw.Intn(9)
		rows := drawnRows(draw, size, 2+draw.Intn(24), million)
		b := learned(t, size, rows...)
		draw.Shuffle(len(rows), func(i, j int) { rows[i], rows[j] = rows[j], rows[i] })
		for _, row := range rows {
			draw.Shuffle(size, func(i, j int) { row[i], row[j] = row[j], row[i] })
		}
		other := learned(t, size, rows...)
		if other.Last != rows[len(rows)-1][size-1] {
			t.Errorf("Last is %d of rows that end on %v", other.Last, rows[len(rows)-1])
		}
		s, r := draw.Intn(size*million), draw.Intn(farthest)
		p, _ := Point(b, s)
		checkPoint(t, other, s, p, api.OK)
		wide, _ := Wide(b, r)
		checkWide(t, other, r, wide, api.OK)
		if other.Last = b.Last; other != b {
			t.Errorf("%v in another order are %v", b, other)
		}
	}
}

// P15.5: of single samples the order does matter, as their steps hang on it; a line that is turned round has the same steps.
func TestOrderOfSingles(t *testing.T) {
	line := learned(t, 1, []int{1}, []int{2}, []int{9})
	round := learned(t, 1, []int{9}, []int{2}, []int{1})
	other := learned(t, 1, []int{1}, []int{9}, []int{2})
	if line.Ranges != 8 || round.Ranges != 8 || other.Ranges != 15 {
		t.Errorf("Ranges are %d, %d, %d; want 8, 8, 15", line.Ranges, round.Ranges, other.Ranges)
	}
}

// P15.5: what is added to all samples moves the middle by as much, and not how far a point is from it, nor how ranges are.
func TestAdded(t *testing.T) {
	draw := rand.New(rand.NewSource(7))
	for range 2000 {
		size := 1 + draw.Intn(10)
		rows := drawnRows(draw, size, 2+draw.Intn(24), million/2)
		b := learned(t, size, rows...)
		k := draw.Intn(million+1) - million/2
		for _, row := range rows {
			for j := range row {
				row[j] += k
			}
		}
		moved := learned(t, size, rows...)
		s := draw.Intn(size*million/2+1) - draw.Intn(size*million/2+1)
		want, _ := Point(b, s)
		want.Center += k * want.Den
		checkPoint(t, moved, s+k*size, want, api.OK)
		r := draw.Intn(farthest + 1)
		wide, _ := Wide(b, r)
		checkWide(t, moved, r, wide, api.OK)
	}
}

// P15.5: a value that is the mean has Dev 0, and no other has.
func TestMean(t *testing.T) {
	draw := rand.New(rand.NewSource(8))
	for range 2000 {
		b := drawnBase(draw)
		if b.M < 2 {
			continue
		}
		b.Sum -= b.Sum % b.M
		mean := b.Sum / b.M
		if p, why := Point(b, mean); p.Dev != 0 || why != api.OK {
			t.Errorf("Point(%v, %d) = %v, %d; want Dev 0", b, mean, p, why)
		}
		far := b.Size * million
		if p, why := Point(b, mean+1); mean < far && (p.Dev <= 0 || why != api.OK) {
			t.Errorf("Point(%v, %d) = %v, %d; want it above", b, mean+1, p, why)
		}
		if p, why := Point(b, mean-1); -far < mean && (p.Dev >= 0 || why != api.OK) {
			t.Errorf("Point(%v, %d) = %v, %d; want it below", b, mean-1, p, why)
		}
	}
}

// questions are calls with their right answers, refused ones among them.
func questions() []func() bool {
	var l []func() bool
	draw := rand.New(rand.NewSource(9))
	for i := range 300 {
		b, none := drawnBase(draw), wrongBases()[i%len(wrongBases())]
		row := drawnRows(draw, b.Size, 1, million)[0]
		s, r := row[0], draw.Intn(farthest)
		then, full := reckonedTake(b, row)
		p, early := reckonedPoint(b, s)
		wide, soon := reckonedWide(b, r)
		l = append(l, func() bool {
			got, why := Take(b, row)
			return got == then && why == full
		}, func() bool {
			got, why := Point(b, s)
			return got == p && why == early
		}, func() bool {
			got, why := Wide(b, r)
			return got == wide && why == soon
		}, func() bool {
			got, why := New(b.Size)
			return got == api.Base{Size: b.Size} && why == api.OK && Right(b) && !Right(none)
		}, func() bool {
			got, why := Take(none, row)
			point, told := Point(none, s)
			return got == api.Base{} && why == api.ErrArg && point == api.Point{} && told == api.ErrArg
		})
	}
	return l
}

// R1: calls in any order, many times over, answer the same.
func TestCallsInAnyOrder(t *testing.T) {
	draw := rand.New(rand.NewSource(10))
	l := questions()
	for range 20 {
		for _, i := range draw.Perm(len(l)) {
			if !l[i]() {
				t.Fatalf("question %d has another answer", i)
			}
		}
	}
}

// R1: calls of several goroutines at once answer the same.
func TestCallsAtOnce(t *testing.T) {
	l := questions()
	var begun, ended sync.WaitGroup
	begun.Add(1)
	for g := range 16 {
		ended.Go(func() {
			begun.Wait()
			draw := rand.New(rand.NewSource(int64(g)))
			for range 10 {
				for _, i := range draw.Perm(len(l)) {
					if !l[i]() {
						t.Errorf("question %d has another answer in goroutine %d", i, g)
						return
					}
				}
			}
		})
	}
	begun.Done()
	ended.Wait()
}

// R4: drawn rows stay as they were.
func TestRowsStay(t *testing.T) {
	draw := rand.New(rand.NewSource(11))
	for range 1000 {
		b := drawnBase(draw)
		row := drawnRows(draw, b.Size, 1, 2*million)[0]
		before := slices.Clone(row)
		Take(b, row)
		if !slices.Equal(row, before) {
			t.Errorf("Take(%v, %v) left %v", b, before, row)
		}
	}
}
