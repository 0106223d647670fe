package zone

import (
	"math"
	"math/big"
	"math/rand"
	"slices"
	"sync"
	"testing"

	"datum/api"
)

const (
	least    = math.MinInt
	greatest = math.MaxInt
	top      = math.MaxUint64
)

// lastVariance is 2^124 - 1, the greatest variance.
func lastVariance() api.W { return api.W{Hi: 1<<60 - 1, Lo: top} }

// bigOf is the wide number as a big integer.
func bigOf(w api.W) *big.Int {
	high := new(big.Int).Lsh(new(big.Int).SetUint64(w.Hi), 64)
	return high.Add(high, new(big.Int).SetUint64(w.Lo))
}

// wideOf is the big integer, from 0 to 2^128 - 1, as a wide number.
func wideOf(x *big.Int) api.W {
	return api.W{Hi: new(big.Int).Rsh(x, 64).Uint64(), Lo: new(big.Int).And(x, new(big.Int).SetUint64(top)).Uint64()}
}

// squareOf is x times x.
func squareOf(x int) *big.Int {
	size := big.NewInt(int64(x))
	return size.Mul(size, size)
}

// timesSquare is the wide number times k times k.
func timesSquare(v api.W, k int) *big.Int { return new(big.Int).Mul(bigOf(v), squareOf(k)) }

// isNone is whether the number is no variance.
func isNone(v api.W) bool { return bigOf(v).BitLen() > 124 }

// reckoned is the class, and the error, found apart from the program.
func reckoned(dev int, v api.W) (int, api.Errno) {
	if isNone(v) {
		return 0, api.ErrArg
	}
	if dev == 0 {
		return 0, api.OK
	}
	far := 1
	for _, k := range []int{1, 2, 3} {
		if timesSquare(v, k).Cmp(squareOf(dev)) < 0 {
			far++
		}
	}
	if dev < 0 {
		far = -far
	}
	return far, api.OK
}

// classesOf are all classes, the least one first: a mask's bits are theirs, in this order.
func classesOf() []int { return []int{-4, -3, -2, -1, 0, 1, 2, 3, 4} }

// maskOf is the mask that has all classes from low to high.
func maskOf(low, high int) int {
	mask, bit := 0, 1
	for _, c := range classesOf() {
		if low <= c && c <= high {
			mask += bit
		}
		bit *= 2
	}
	return mask
}

// listOf are the classes that a mask has, the least one first.
func listOf(mask int) []int {
	var l []int
	for _, c := range classesOf() {
		if mask%2 == 1 {
			l = append(l, c)
		}
		mask /= 2
	}
	return l
}

// members are some of a span: its ends, and those about 0, where a class changes its sign.
func members(a api.Span) []int {
	l := []int{a.Lo, a.Hi}
	for _, x := range []int{-1, 0, 1} {
		if a.Lo < x && x < a.Hi {
			l = append(l, x)
		}
	}
	return l
}

// reckonedHull is the hull, and the error, found apart from the program, by the spans' members alone.
func reckonedHull(dev api.Span, low, high api.W) (int, api.Errno) {
	if dev.Lo > dev.Hi || bigOf(low).Cmp(bigOf(high)) > 0 || isNone(high) {
		return 0, api.ErrArg
	}
	var l []int
	for _, x := range members(dev) {
		for _, v := range []api.W{low, high} {
			c, _ := reckoned(x, v)
			l = append(l, c)
		}
	}
	return maskOf(slices.Min(l), slices.Max(l)), api.OK
}

// checkClass holds Class's answer against what is wanted.
func checkClass(t *testing.T, dev int, v api.W, want int, why api.Errno) {
	t.Helper()
	if got, told := Class(dev, v); got != want || told != why {
		t.Errorf("Class(%d, %v) = %d, %d; want %d, %d", dev, v, got, told, want, why)
	}
}

// checkClasses holds the classes of a deviation and of the other sign's against a reckoning.
func checkClasses(t *testing.T, dev int, v api.W) {
	t.Helper()
	want, why := reckoned(dev, v)
	checkClass(t, dev, v, want, why)
	if dev != least {
		checkClass(t, -dev, v, -want, why)
	}
}

// checkHull holds Hull's answer against what is wanted.
func checkHull(t *testing.T, dev api.Span, low, high api.W, want int, why api.Errno) {
	t.Helper()
	if got, told := Hull(dev, low, high); got != want || told != why {
		t.Errorf("Hull(%v, %v, %v) = %d, %d; want %d, %d", dev, low, high, got, told, want, why)
	}
}

// checkEnds holds the answer of Ends against what is wanted.
func checkEnds(t *testing.T, mask, low, high int, why api.Errno) {
	t.Helper()
	if first, last, told := Ends(mask); first != low || last != high || told != why {
		t.Errorf("Ends(%d) = %d, %d, %d; want %d, %d, %d", mask, first, last, told, low, high, why)
	}
}

// edges are deviations at the ends of int, at 0, beside them, and about the ends of half a word.
func edges() []int {
	return []int{least, least + 1, least + 2, -1<<62 - 1, -1 << 62, 1 - 1<<62, -1 << 32, -3, -2, -1, 0, 1, 2, 3, 1<<32 - 1, 1 << 32, 1<<62 - 1, 1 << 62, greatest - 2, greatest - 1, greatest}
}

// variances are some at both ends, and about the end of a word, in rising order.
func variances() []api.W {
	return []api.W{{}, {Lo: 1}, {Lo: 2}, {Lo: 3}, {Lo: 9}, {Lo: 1 << 32}, {Lo: top / 9}, {Lo: top/9 + 1}, {Lo: top / 4}, {Lo: top/4 + 1}, {Lo: top - 1}, {Lo: top},
		{Hi: 1}, {Hi: 1, Lo: 1}, {Hi: 1, Lo: top}, {Hi: 1 << 58}, {Hi: 1<<60 - 2, Lo: top}, {Hi: 1<<60 - 1}, {Hi: 1<<60 - 1, Lo: 1}, {Hi: 1<<60 - 1, Lo: top - 1}, lastVariance()}
}

// noVariances are numbers that are too great, the least of them first.
func noVariances() []api.W {
	return []api.W{{Hi: 1 << 60}, {Hi: 1 << 60, Lo: 1}, {Hi: 1 << 60, Lo: top}, {Hi: 1<<60 + 1}, {Hi: 1<<60 + 1, Lo: top}, {Hi: 1 << 61}, {Hi: 1 << 63}, {Hi: top}, {Hi: top, Lo: 1}, {Hi: top, Lo: top}}
}

// noSpans are some that may not be.
func noSpans() []api.Span {
	return []api.Span{{Lo: 1, Hi: 0}, {Lo: 0, Hi: -1}, {Lo: 1, Hi: -1}, {Lo: 6, Hi: 5}, {Lo: -5, Hi: -6}, {Lo: greatest, Hi: least}, {Lo: least + 1, Hi: least}, {Lo: greatest, Hi: greatest - 1}, {Lo: greatest, Hi: 0}, {Lo: 0, Hi: least}}
}

// noMasks are numbers that are none.
func noMasks() []int {
	l := []int{0, 512, 513, 1023, 1024, 1 << 32, 1<<32 + 1, 1 << 62, greatest - 1, greatest, -1, -2, -16, -511, -512, -513, least, least + 1, least + 16, least + 511}
	for i := range 100 {
		l = append(l, -i, 512+i)
	}
	return l
}

// noClasses are numbers that are none: one beyond both ends, at the ends of int, and such as have a class's bit, but for what a word has no room for.
func noClasses() []int {
	l := []int{least, least + 1, least + 4, greatest - 4, greatest - 3, greatest - 1, greatest, -4 - 64, -64, 4 - 64, 64 - 4, 64, 64 + 4, 256, 1<<32 - 4, 1 << 32, -1 << 32}
	for i := range 70 {
		l = append(l, 5+i, -5-i)
	}
	return l
}

// drawnSize is a number below 2^bits, of any length.
func drawnSize(draw *rand.Rand, bits int) *big.Int {
	return new(big.Int).Rand(draw, new(big.Int).Lsh(big.NewInt(1), uint(draw.Intn(bits+1))))
}

// drawnDev is a deviation that is drawn, often one near an end, or near 0.
func drawnDev(draw *rand.Rand) int {
	if draw.Intn(4) == 0 {
		return edges()[draw.Intn(len(edges()))]
	}
	dev := int(drawnSize(draw, 63).Int64())
	if draw.Intn(2) == 0 {
		return -dev
	}
	return dev
}

// drawnVariance is a variance that is drawn, often one near a line of the deviation.
func drawnVariance(draw *rand.Rand, dev int) api.W {
	if draw.Intn(2) == 0 {
		return wideOf(drawnSize(draw, 124))
	}
	l := beside(dev, 1+draw.Intn(3))
	if len(l) == 0 {
		return lastVariance()
	}
	return l[draw.Intn(len(l))]
}

// beside are the variances whose product with k times k is just the deviation's square, or lies nearest to that, on both sides.
func beside(dev, k int) []api.W {
	var l []api.W
	nearest := new(big.Int).Div(squareOf(dev), squareOf(k))
	for i := range 3 {
		v := new(big.Int).Add(nearest, big.NewInt(int64(i-1)))
		if v.Sign() >= 0 && v.BitLen() <= 124 {
			l = append(l, wideOf(v))
		}
	}
	return l
}

// P13.1 to P13.3: the limits are the chapter's.
func TestLimits(t *testing.T) {
	if api.MaxClass != 4 || api.Masks != 512 {
		t.Errorf("the limits are %d and %d", api.MaxClass, api.Masks)
	}
}

// P13.1: the chapter's examples.
func TestExamples(t *testing.T) {
	checkClass(t, 6, api.W{Lo: 9}, 2, api.OK)
	checkClass(t, 7, api.W{Lo: 9}, 3, api.OK)
	checkClass(t, -10, api.W{Lo: 9}, -4, api.OK)
	checkClass(t, 1, api.W{}, 4, api.OK)
}

// P13.1: what is reckoned by hand.
func TestClassByHand(t *testing.T) {
	for _, x := range []struct {
		dev  int
		v    api.W
		want int
	}{
		{0, api.W{}, 0}, {0, api.W{Lo: 1}, 0}, {0, lastVariance(), 0}, {1, api.W{Lo: 1}, 1}, {1, api.W{Lo: 2}, 1}, {2, api.W{Lo: 1}, 2}, {3, api.W{Lo: 1}, 3}, {4, api.W{Lo: 1}, 4}, {5, api.W{Lo: 1}, 4},
		{3, api.W{Lo: 9}, 1}, {4, api.W{Lo: 9}, 2}, {9, api.W{Lo: 9}, 3}, {10, api.W{Lo: 9}, 4}, {2, api.W{Lo: 5}, 1}, {3, api.W{Lo: 5}, 2}, {4, api.W{Lo: 5}, 2}, {5, api.W{Lo: 5}, 3}, {6, api.W{Lo: 5}, 3}, {7, api.W{Lo: 5}, 4},
		{1, lastVariance(), 1}, {1 << 32, api.W{Hi: 1}, 1}, {1<<32 + 1, api.W{Hi: 1}, 2}, {1<<33 + 1, api.W{Hi: 1}, 3}, {3 << 32, api.W{Hi: 1}, 3}, {3<<32 + 1, api.W{Hi: 1}, 4},
		{1 << 32, api.W{Lo: top}, 2}, {1<<32 - 1, api.W{Lo: top}, 1}, {1 << 33, api.W{Lo: top}, 3}, {3 << 32, api.W{Lo: top}, 4}, {1<<62 - 1, lastVariance(), 1}, {1 << 62, lastVariance(), 2},
		{greatest, api.W{}, 4}, {greatest, lastVariance(), 2}, {greatest, api.W{Hi: 1<<60 - 2, Lo: top}, 3}, {greatest, api.W{Hi: 1<<58 - 1}, 4}, {greatest - 1, lastVariance(), 2},
	} {
		checkClass(t, x.dev, x.v, x.want, api.OK)
		checkClass(t, -x.dev, x.v, -x.want, api.OK)
	}
	// The least int lies one farther than the greatest, and its square is four times 2^124.
	checkClass(t, least, lastVariance(), -3, api.OK)
	checkClass(t, least, api.W{}, -4, api.OK)
	checkClass(t, least, api.W{Lo: top}, -4, api.OK)
	checkClass(t, least, api.W{Hi: 1<<60 - 1}, -3, api.OK)
	checkClass(t, least, api.W{Hi: 1 << 58}, -4, api.OK)
	checkClass(t, least+1, lastVariance(), -2, api.OK)
}

// P13.1: a number that is no variance, whatever the deviation.
func TestClassOfNoVariance(t *testing.T) {
	draw := rand.New(rand.NewSource(131))
	for _, dev := range append(edges(), drawnDev(draw), drawnDev(draw)) {
		for _, v := range noVariances() {
			checkClass(t, dev, v, 0, api.ErrArg)
		}
		for range 20 {
			checkClass(t, dev, api.W{Hi: 1<<60 | draw.Uint64(), Lo: draw.Uint64()}, 0, api.ErrArg)
		}
		for _, v := range variances() {
			if _, why := Class(dev, v); why != api.OK {
				t.Errorf("Class(%d, %v) tells %d", dev, v, why)
			}
		}
	}
}

// P13.1: deviations and variances at all edges, each small one, and drawn ones.
func TestClass(t *testing.T) {
	for _, dev := range edges() {
		for _, v := range append(variances(), noVariances()...) {
			checkClasses(t, dev, v)
		}
	}
	for dev := -40; dev <= 40; dev++ {
		for v := range uint64(200) {
			checkClasses(t, dev, api.W{Lo: v})
		}
	}
	draw := rand.New(rand.NewSource(1311))
	for range 20000 {
		dev := drawnDev(draw)
		checkClasses(t, dev, drawnVariance(draw, dev))
	}
}

// roots are deviations of all lengths, as many of each as leave whatever a square can leave when it is divided by 4, or by 9.
func roots() []int {
	var l []int
	for i := range 60 {
		l = append(l, 1+i, 1<<32-30+i, 1<<33-30+i, 1<<48+i, 1<<61-30+i, 1<<62-30+i, greatest-i, least+i)
	}
	return l
}

// gap is how much the deviation's square is more than k times k times the variance.
func gap(dev, k int, v api.W) int {
	return int(new(big.Int).Sub(squareOf(dev), timesSquare(v, k)).Int64())
}

// seenAt is how often a gap at the line k was seen, by how many words the variance, and its product, need.
type seenAt struct{ k, gap, varianceWords, productWords int }

func words(x *big.Int) int { return (max(x.BitLen(), 1) + 63) / 64 }

// P13.1: deviations whose square is just k times k times the variance, one more, or one less. A square is never one less than 4 or 9 times a number: 3 less, and 2 less, are the nearest of these.
func TestAtTheLines(t *testing.T) {
	seen := map[seenAt]int{}
	for k := 1; k <= 3; k++ {
		for _, dev := range roots() {
			for _, v := range beside(dev, k) {
				far := gap(dev, k, v)
				got, _ := Class(dev, v)
				if beyond := max(got, -got) > k; beyond != (far > 0) {
					t.Errorf("Class(%d, %v) = %d, but its square is %d more than %d squared times the variance", dev, v, got, far, k)
				}
				checkClasses(t, dev, v)
				seen[seenAt{k, far, words(bigOf(v)), words(timesSquare(v, k))}]++
			}
		}
	}
	for k, nearestBelow := range map[int]int{1: -1, 2: -3, 3: -2} {
		for _, far := range []int{nearestBelow, 0, 1} {
			for _, both := range [][2]int{{1, 1}, {2, 2}} {
				if seen[seenAt{k, far, both[0], both[1]}] == 0 {
					t.Errorf("no square that is %d more than %d squared times a variance of %d words was looked at", far, k, both[0])
				}
			}
		}
		if k > 1 && seen[seenAt{k, 0, 1, 2}] == 0 {
			t.Errorf("no variance of one word whose product with %d squared needs two was looked at", k)
		}
	}
}

// P13.2: what is reckoned by hand.
func TestHullByHand(t *testing.T) {
	for _, x := range []struct {
		dev       api.Span
		low, high uint64
		want      int
	}{
		{api.Span{}, 0, 0, 16}, {api.Span{}, 0, 9, 16}, {api.Span{Lo: -1, Hi: 1}, 1, 1, 56}, {api.Span{Lo: 5, Hi: 5}, 1, 5, 384}, {api.Span{Lo: -5, Hi: -5}, 1, 5, 3},
		{api.Span{Hi: 1}, 0, 0, 496}, {api.Span{Lo: -1}, 0, 0, 31}, {api.Span{Lo: -1, Hi: 1}, 0, 0, 511}, {api.Span{Lo: -1, Hi: 1}, 0, 9, 511}, {api.Span{Lo: 1, Hi: 1}, 0, 9, 480}, {api.Span{Lo: -1, Hi: -1}, 0, 9, 15},
		{api.Span{Lo: 6, Hi: 7}, 9, 9, 192}, {api.Span{Lo: 6, Hi: 6}, 9, 9, 64}, {api.Span{Lo: -10, Hi: 6}, 9, 9, 127}, {api.Span{Lo: -7, Hi: -6}, 9, 9, 6}, {api.Span{Lo: 2, Hi: 7}, 9, 9, 224}, {api.Span{Lo: 2, Hi: 7}, 1, 9, 480}, {api.Span{Lo: 4, Hi: 7}, 1, 9, 448},
		{api.Span{Lo: least, Hi: greatest}, 0, 0, 511}, {api.Span{Lo: least, Hi: least}, 0, 0, 1}, {api.Span{Lo: greatest, Hi: greatest}, 0, 0, 256}, {api.Span{Hi: greatest}, 5, 5, 496}, {api.Span{Lo: least}, 5, 5, 31},
	} {
		checkHull(t, x.dev, api.W{Lo: x.low}, api.W{Lo: x.high}, x.want, api.OK)
	}
	last := lastVariance()
	checkHull(t, api.Span{Lo: least, Hi: greatest}, last, last, 126, api.OK)
	checkHull(t, api.Span{Lo: least, Hi: greatest}, api.W{}, last, 511, api.OK)
	checkHull(t, api.Span{Lo: least, Hi: least}, last, last, 2, api.OK)
	checkHull(t, api.Span{Lo: least, Hi: least}, api.W{}, last, 3, api.OK)
	checkHull(t, api.Span{Lo: greatest, Hi: greatest}, last, last, 64, api.OK)
	checkHull(t, api.Span{Lo: greatest, Hi: greatest}, api.W{Lo: 7}, last, 448, api.OK)
	checkHull(t, api.Span{}, api.W{}, last, 16, api.OK)
	checkHull(t, api.Span{Lo: -1 << 32, Hi: 1 << 33}, api.W{Lo: top}, api.W{Hi: 1}, 252, api.OK)
}

// smallClasses are the classes of deviations from -n to n, by the variances from 0 to m.
func smallClasses(n, m int) [][]int {
	var rows [][]int
	for dev := -n; dev <= n; dev++ {
		var row []int
		for v := range m + 1 {
			c, _ := reckoned(dev, api.W{Lo: uint64(v)})
			row = append(row, c)
		}
		rows = append(rows, row)
	}
	return rows
}

// met are the least and the greatest of the rows' classes from low to high.
func met(rows [][]int, low, high int) (int, int) {
	first, last := 4, -4
	for _, row := range rows {
		first, last = min(first, slices.Min(row[low:high+1])), max(last, slices.Max(row[low:high+1]))
	}
	return first, last
}

// P13.2: all small spans with all small rows of variances, by the classes of each deviation with each variance.
func TestHullOfSmallSpans(t *testing.T) {
	const n, m = 11, 13
	rows := smallClasses(n, m)
	for lo := -n; lo <= n; lo++ {
		for hi := lo; hi <= n; hi++ {
			for low := range m + 1 {
				for high := low; high <= m; high++ {
					first, last := met(rows[lo+n:hi+n+1], low, high)
					checkHull(t, api.Span{Lo: lo, Hi: hi}, api.W{Lo: uint64(low)}, api.W{Lo: uint64(high)}, maskOf(first, last), api.OK)
				}
			}
		}
	}
}

// P13.2: spans of one deviation, with one variance, have the class of both alone.
func TestHullOfOne(t *testing.T) {
	draw := rand.New(rand.NewSource(132))
	check := func(dev int, v api.W) {
		c, why := reckoned(dev, v)
		checkHull(t, api.Span{Lo: dev, Hi: dev}, v, v, maskOf(c, c), why)
	}
	for _, dev := range edges() {
		for _, v := range variances() {
			check(dev, v)
		}
	}
	for range 5000 {
		dev := drawnDev(draw)
		check(dev, drawnVariance(draw, dev))
	}
}

// P13.2: spans and variances at all edges.
func TestHullAtTheEdges(t *testing.T) {
	all := append(variances(), noVariances()...)
	for _, lo := range edges() {
		for _, hi := range edges() {
			dev := api.Span{Lo: lo, Hi: hi}
			for _, low := range all {
				for _, high := range all {
					want, why := reckonedHull(dev, low, high)
					checkHull(t, dev, low, high, want, why)
				}
			}
		}
	}
}

// P13.2: a span that may not be, low more than high, and high that is no variance, each alone, and several of them at once.
func TestWrongHulls(t *testing.T) {
	one, nine, last := api.W{Lo: 1}, api.W{Lo: 9}, lastVariance()
	for _, dev := range noSpans() {
		checkHull(t, dev, api.W{}, api.W{}, 0, api.ErrArg)
		checkHull(t, dev, one, nine, 0, api.ErrArg)
		checkHull(t, dev, one, last, 0, api.ErrArg)
		checkHull(t, dev, nine, one, 0, api.ErrArg)
		checkHull(t, dev, api.W{Hi: top, Lo: top}, one, 0, api.ErrArg)
		for _, v := range noVariances() {
			checkHull(t, dev, one, v, 0, api.ErrArg)
			checkHull(t, dev, v, v, 0, api.ErrArg)
			checkHull(t, dev, v, one, 0, api.ErrArg)
		}
	}
	crossed := [][2]api.W{{nine, one}, {one, {}}, {{Hi: 1}, {Lo: top}}, {{Hi: 1}, one}, {{Hi: 2}, {Hi: 1, Lo: top}}, {{Hi: 1, Lo: 1}, {Hi: 1}}, {{Hi: 5, Lo: top}, {Hi: 5, Lo: top - 1}}, {last, {Hi: last.Hi, Lo: top - 1}}, {last, {}}, {{Hi: 1 << 60}, last}, {{Hi: top, Lo: top}, last}, {{Hi: top, Lo: top}, {}}}
	for _, lo := range edges() {
		for _, dev := range []api.Span{{Lo: lo, Hi: lo}, {Lo: lo, Hi: greatest}, {Lo: least, Hi: lo}} {
			for _, x := range crossed {
				checkHull(t, dev, x[0], x[1], 0, api.ErrArg)
			}
			for _, v := range noVariances() {
				checkHull(t, dev, api.W{}, v, 0, api.ErrArg)
				checkHull(t, dev, last, v, 0, api.ErrArg)
				checkHull(t, dev, v, v, 0, api.ErrArg)
			}
		}
	}
}

// drawnSpan is a span of deviations that is drawn: often narrow, of one, or with 0 at an end.
func drawnSpan(draw *rand.Rand) api.Span {
	x := drawnDev(draw)
	y := []int{x, 0, drawnDev(draw), drawnDev(draw), x/16*15 + draw.Intn(5)}[draw.Intn(5)]
	return api.Span{Lo: min(x, y), Hi: max(x, y)}
}

// drawnPair are two variances that are drawn, the lesser one first.
func drawnPair(draw *rand.Rand, dev int) (api.W, api.W) {
	low, high := drawnVariance(draw, dev), drawnVariance(draw, dev)
	if draw.Intn(5) == 0 {
		high = low
	}
	if bigOf(low).Cmp(bigOf(high)) > 0 {
		return high, low
	}
	return low, high
}

// P13.2: drawn spans and variances.
func TestHull(t *testing.T) {
	draw := rand.New(rand.NewSource(1321))
	for range 20000 {
		dev := drawnSpan(draw)
		low, high := drawnPair(draw, []int{dev.Lo, dev.Hi}[draw.Intn(2)])
		want, why := reckonedHull(dev, low, high)
		checkHull(t, dev, low, high, want, why)
	}
}

// P13.3: each mask and each class.
func TestHas(t *testing.T) {
	for mask := 1; mask <= 511; mask++ {
		has := listOf(mask)
		for _, c := range classesOf() {
			if got := Has(mask, c); got != slices.Contains(has, c) {
				t.Errorf("Has(%d, %d) = %t", mask, c, got)
			}
		}
		for _, c := range noClasses() {
			if Has(mask, c) {
				t.Errorf("Has(%d, %d)", mask, c)
			}
		}
	}
}

// P13.3: what is reckoned by hand.
func TestHasByHand(t *testing.T) {
	for i, c := range classesOf() {
		bit := []int{1, 2, 4, 8, 16, 32, 64, 128, 256}[i]
		if !Has(bit, c) || Has(511-bit, c) || !Has(511, c) {
			t.Errorf("of %d, %d and 511 the class %d is in the wrong ones", bit, 511-bit, c)
		}
	}
}

// P13.3: numbers that are no masks have nothing, and no ends.
func TestNoMasks(t *testing.T) {
	for _, mask := range noMasks() {
		for _, c := range append(classesOf(), noClasses()...) {
			if Has(mask, c) {
				t.Errorf("Has(%d, %d)", mask, c)
			}
		}
		checkEnds(t, mask, 0, 0, api.ErrArg)
	}
}

// P13.3: each mask's ends.
func TestEnds(t *testing.T) {
	for mask := 1; mask <= 511; mask++ {
		has := listOf(mask)
		checkEnds(t, mask, has[0], has[len(has)-1], api.OK)
	}
	checkEnds(t, 1, -4, -4, api.OK)
	checkEnds(t, 16, 0, 0, api.OK)
	checkEnds(t, 256, 4, 4, api.OK)
	checkEnds(t, 257, -4, 4, api.OK)
	checkEnds(t, 511, -4, 4, api.OK)
	checkEnds(t, 40, -1, 1, api.OK)
	checkEnds(t, 6, -3, -2, api.OK)
	checkEnds(t, 320, 2, 4, api.OK)
}

// P13.2, P13.3: the ends of a hull are classes of its span's ends, and it has all between.
func TestEndsOfHulls(t *testing.T) {
	draw := rand.New(rand.NewSource(133))
	for range 5000 {
		dev := drawnSpan(draw)
		low, high := drawnPair(draw, dev.Hi)
		mask, _ := Hull(dev, low, high)
		first, last, why := Ends(mask)
		if why != api.OK || maskOf(first, last) != mask {
			t.Fatalf("Hull(%v, %v, %v) = %d, with the ends %d and %d, %d", dev, low, high, mask, first, last, why)
		}
		nearLow, _ := Class(dev.Lo, high)
		farLow, _ := Class(dev.Lo, low)
		nearHigh, _ := Class(dev.Hi, high)
		farHigh, _ := Class(dev.Hi, low)
		if first != min(nearLow, farLow) || last != max(nearHigh, farHigh) {
			t.Fatalf("Hull(%v, %v, %v) = %d", dev, low, high, mask)
		}
	}
}

// checkRises holds the classes of deviations, that rise, against each other.
func checkRises(t *testing.T, devs []int, v api.W) {
	t.Helper()
	ahead := -4
	for _, dev := range devs {
		c, why := Class(dev, v)
		if c < ahead || why != api.OK || (c < 0) != (dev < 0) || (c > 0) != (dev > 0) {
			t.Fatalf("Class(%d, %v) = %d, %d, behind %d", dev, v, c, why, ahead)
		}
		ahead = c
	}
}

// P13.4: the class rises with the deviation, and is 0 at 0 alone.
func TestClassRises(t *testing.T) {
	draw := rand.New(rand.NewSource(134))
	var small []int
	for dev := -1000; dev <= 1000; dev++ {
		small = append(small, dev)
	}
	for _, v := range variances() {
		checkRises(t, edges(), v)
		checkRises(t, small, v)
	}
	for range 300 {
		v := drawnVariance(draw, drawnDev(draw))
		var l []int
		for range 30 {
			l = append(l, drawnDev(draw))
		}
		slices.Sort(l)
		checkRises(t, l, v)
	}
}

// checkFalls holds the classes by variances, that rise, against each other: away from 0 they fall.
func checkFalls(t *testing.T, dev int, l []api.W) {
	t.Helper()
	ahead := 4
	for _, v := range l {
		c, why := Class(dev, v)
		far := max(c, -c)
		if far > ahead || why != api.OK || (far == 0) != (dev == 0) {
			t.Fatalf("Class(%d, %v) = %d, %d, behind %d", dev, v, c, why, ahead)
		}
		ahead = far
	}
}

// P13.4: away from 0, the class falls with the variance.
func TestClassFalls(t *testing.T) {
	draw := rand.New(rand.NewSource(1341))
	var small []api.W
	for v := range uint64(1000) {
		small = append(small, api.W{Lo: v})
	}
	for _, dev := range append(edges(), -33, -20, -5, 5, 20, 33) {
		checkFalls(t, dev, variances())
		checkFalls(t, dev, small)
	}
	for range 300 {
		dev := drawnDev(draw)
		var l []api.W
		for range 30 {
			l = append(l, drawnVariance(draw, dev))
		}
		slices.SortFunc(l, func(a, b api.W) int { return bigOf(a).Cmp(bigOf(b)) })
		checkFalls(t, dev, l)
	}
}

// P13.4: the other sign's class is the other one, and the other side's hull has the other classes.
func TestOtherSign(t *testing.T) {
	draw := rand.New(rand.NewSource(1342))
	for range 5000 {
		dev := drawnSpan(draw)
		dev.Lo, dev.Hi = max(dev.Lo, -greatest), max(dev.Hi, -greatest)
		low, high := drawnPair(draw, dev.Lo)
		c, _ := Class(dev.Lo, low)
		checkClass(t, -dev.Lo, low, -c, api.OK)
		mask, _ := Hull(dev, low, high)
		other, _ := Hull(api.Span{Lo: -dev.Hi, Hi: -dev.Lo}, low, high)
		for _, c := range classesOf() {
			if Has(mask, c) != Has(other, -c) {
				t.Fatalf("Hull(%v, %v, %v) = %d, and %d of the other side", dev, low, high, mask, other)
			}
		}
	}
}

// drawnBetween is a number from low to high that is drawn, often an end.
func drawnBetween(draw *rand.Rand, low, high *big.Int) *big.Int {
	switch draw.Intn(6) {
	case 0:
		return low
	case 1:
		return high
	}
	room := new(big.Int).Sub(high, low)
	x := new(big.Int).Rand(draw, room.Add(room, big.NewInt(1)))
	return x.Add(x, low)
}

// P13.4: whatever is in a hull's span, and between its variances, has a class that the hull has.
func TestHullHasAll(t *testing.T) {
	draw := rand.New(rand.NewSource(1343))
	for range 3000 {
		dev := drawnSpan(draw)
		low, high := drawnPair(draw, dev.Lo)
		mask, why := Hull(dev, low, high)
		for range 10 {
			x := int(drawnBetween(draw, big.NewInt(int64(dev.Lo)), big.NewInt(int64(dev.Hi))).Int64())
			v := wideOf(drawnBetween(draw, bigOf(low), bigOf(high)))
			if c, _ := Class(x, v); !Has(mask, c) || why != api.OK {
				t.Fatalf("Hull(%v, %v, %v) = %d, %d lacks %d, the class of %d and %v", dev, low, high, mask, why, c, x, v)
			}
		}
	}
}

// questions are calls with their right answers, refused ones among them.
func questions() []func() bool {
	var l []func() bool
	draw := rand.New(rand.NewSource(1))
	for i := range 300 {
		dev, none := drawnSpan(draw), noVariances()[i%len(noVariances())]
		low, high := drawnPair(draw, dev.Lo)
		class, _ := reckoned(dev.Lo, low)
		mask, _ := reckonedHull(dev, low, high)
		has := listOf(mask)
		l = append(l, func() bool {
			got, why := Class(dev.Lo, low)
			return got == class && why == api.OK
		}, func() bool {
			got, why := Hull(dev, low, high)
			return got == mask && why == api.OK
		}, func() bool {
			first, last, why := Ends(mask)
			return first == has[0] && last == has[len(has)-1] && why == api.OK
		}, func() bool {
			return Has(mask, class) && !Has(mask, 5+i) && !Has(-mask, class) && !Has(mask+512, class)
		}, func() bool {
			got, why := Class(dev.Hi, none)
			hull, told := Hull(dev, low, none)
			return got == 0 && why == api.ErrArg && hull == 0 && told == api.ErrArg
		}, func() bool {
			first, last, why := Ends(-i)
			return first == 0 && last == 0 && why == api.ErrArg
		})
	}
	return l
}

// R1: calls in any order, many times over, answer the same.
func TestCallsInAnyOrder(t *testing.T) {
	draw := rand.New(rand.NewSource(2))
	l := questions()
	for range 20 {
		for _, i := range draw.Perm(len(l)) {
			if !l[i]() {
				t.Fatalf("question %d has another answer", i)
			}
		}
	}
}

// R1: calls of several goroutines at once answer the same.
func TestCallsAtOnce(t *testing.T) {
	l := questions()
	var begun, ended sync.WaitGroup
	begun.Add(1)
	for g := range 16 {
		ended.Go(func() {
			begun.Wait()
			draw := rand.New(rand.NewSource(int64(g)))
			for range 10 {
				for _, i := range draw.Perm(len(l)) {
					if !l[i]() {
						t.Errorf("question %d has another answer in goroutine %d", i, g)
						return
					}
				}
			}
		})
	}
	begun.Done()
	ended.Wait()
}
