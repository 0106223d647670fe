package stats

import (
	"math"
	"math/big"
	"math/rand"
	"slices"
	"sync"
	"testing"

	"datum/api"
)

const (
	least    = math.MinInt
	greatest = math.MaxInt
	top      = math.MaxUint64
	million  = 1000000
	billion  = 1000000000
)

// bigOf is the wide number as a big integer.
func bigOf(w api.W) *big.Int {
	high := new(big.Int).Lsh(new(big.Int).SetUint64(w.Hi), 64)
	return high.Add(high, new(big.Int).SetUint64(w.Lo))
}

// wideOf is the big integer, from 0 to 2^128 - 1, as a wide number.
func wideOf(x *big.Int) api.W {
	return api.W{Hi: new(big.Int).Rsh(x, 64).Uint64(), Lo: new(big.Int).And(x, new(big.Int).SetUint64(top)).Uint64()}
}

// times is what the numbers are, multiplied.
func times(l ...int) *big.Int {
	product := big.NewInt(1)
	for _, x := range l {
		product.Mul(product, big.NewInt(int64(x)))
	}
	return product
}

// plus is the wide number and x together.
func plus(w api.W, x int64) api.W { return wideOf(new(big.Int).Add(bigOf(w), big.NewInt(x))) }

// most are the greatest Squares that n samples can have.
func most(n int) api.W { return wideOf(times(n, million, million)) }

// mayBe is whether the stats may be, as the chapter's words say it.
func mayBe(s api.Stats) bool {
	if s == (api.Stats{}) {
		return true
	}
	n, sum, squares := big.NewInt(int64(s.N)), big.NewInt(int64(s.Sum)), bigOf(s.Squares)
	ends := -million <= s.Min && s.Min <= s.Max && s.Max <= million
	between := times(s.N, s.Min).Cmp(sum) <= 0 && sum.Cmp(times(s.N, s.Max)) <= 0
	bounded := squares.Cmp(times(s.N, million, million)) <= 0
	together := times(s.Sum, s.Sum).Cmp(new(big.Int).Mul(n, squares)) <= 0
	return 1 <= s.N && s.N <= billion && ends && between && bounded && together
}

// refused is whether a sample is.
func refused(x int) bool { return x < -million || million < x }

// reckoned are the stats of samples, and the error, found apart from the program.
func reckoned(l []int) (api.Stats, api.Errno) {
	if slices.ContainsFunc(l, refused) {
		return api.Stats{}, api.ErrRange
	}
	if len(l) == 0 {
		return api.Stats{}, api.OK
	}
	sum, squares := new(big.Int), new(big.Int)
	for _, x := range l {
		sum.Add(sum, times(x))
		squares.Add(squares, times(x, x))
	}
	return api.Stats{N: len(l), Sum: int(sum.Int64()), Squares: wideOf(squares), Min: slices.Min(l), Max: slices.Max(l)}, api.OK
}

// checkOf holds Of's answer against what is wanted.
func checkOf(t *testing.T, l []int, want api.Stats, why api.Errno) {
	t.Helper()
	if got, told := Of(l); got != want || told != why {
		t.Errorf("Of(%v) = %v, %d; want %v, %d", l, got, told, want, why)
	}
}

// checkJoin holds Join's answer against what is wanted, from both sides.
func checkJoin(t *testing.T, a, b, want api.Stats, why api.Errno) {
	t.Helper()
	if got, told := Join(a, b); got != want || told != why {
		t.Errorf("Join(%v, %v) = %v, %d; want %v, %d", a, b, got, told, want, why)
	}
	if got, told := Join(b, a); got != want || told != why {
		t.Errorf("Join(%v, %v) = %v, %d; want %v, %d", b, a, got, told, want, why)
	}
}

// checkParts holds the answers of Parts, for each number of parts, against what is wanted.
func checkParts(t *testing.T, l []int, want api.Stats, why api.Errno) {
	t.Helper()
	for parts := 1; parts <= 8; parts++ {
		if got, told := Parts(l, parts); got != want || told != why {
			t.Errorf("Parts(%v, %d) = %v, %d; want %v, %d", l, parts, got, told, want, why)
		}
	}
}

// checkSpread holds Spread's answer against what is wanted.
func checkSpread(t *testing.T, s api.Stats, want api.W, why api.Errno) {
	t.Helper()
	if got, told := Spread(s); got != want || told != why {
		t.Errorf("Spread(%v) = %v, %d; want %v, %d", s, got, told, want, why)
	}
}

// checkRight holds Right's answer against what is wanted, and the chapter's words against both.
func checkRight(t *testing.T, s api.Stats, want bool) {
	t.Helper()
	if got := Right(s); got != want || mayBe(s) != want {
		t.Errorf("Right(%v) = %t; want %t, by the chapter's words %t", s, got, want, mayBe(s))
	}
}

// of are the stats of samples that may be.
func of(l ...int) api.Stats {
	s, _ := reckoned(l)
	return s
}

// broad are stats of n samples from the least to the greatest that there are, with the most Squares.
func broad(n, sum int) api.Stats {
	return api.Stats{N: n, Sum: sum, Squares: most(n), Min: -million, Max: million}
}

// single are stats of one sample.
func single(x int) api.Stats { return of(x) }

// justRight are stats that only just may be, beside those that break one condition by as little as can be.
func justRight() []api.Stats {
	l := []api.Stats{
		{}, {N: 1}, {N: billion}, {N: billion - 1}, {N: 1, Squares: most(1)},
		broad(1, 0), broad(1, million), broad(1, -million), single(million), single(-million), single(1), single(-1),
		broad(billion, billion*million), broad(billion, -billion*million), broad(billion, 0), broad(2, 0), broad(2, 2*million),
		{N: 1, Min: -million}, {N: 1, Max: million}, {N: 1, Min: -million, Max: million},
		{N: billion, Sum: billion * million, Squares: most(billion), Min: million, Max: million},
		{N: billion, Sum: -billion * million, Squares: most(billion), Min: -million, Max: -million},
		{N: 4, Sum: -20, Squares: most(4), Min: -5, Max: 7}, {N: 4, Sum: 28, Squares: most(4), Min: -5, Max: 7},
		{N: 2, Sum: 3, Squares: api.W{Lo: 5}, Min: 1, Max: 2}, {N: 2, Sum: 4, Squares: api.W{Lo: 8}, Min: 2, Max: 2},
		of(1, 3, -2), of(7, 7, 7), of(-million, million), of(0, 0, 0, 0), of(-5, 9, 1, 1, 0, 3),
	}
	for _, s := range sumSquared() {
		s.Squares = plus(s.Squares, 1)
		l = append(l, s)
	}
	return l
}

// sumSquared are stats whose Sum squared is one more than N times Squares.
func sumSquared() []api.Stats {
	var l []api.Stats
	for _, n := range []int{2, 3, 7, 10, 1000, million, million + 1, 1 << 29, billion - 1, billion} {
		for _, k := range []int{0, 1, 2, 5, 1000, 99999, million - 1} {
			squares := times(n, k, k)
			squares.Add(squares, times(2, k))
			up := api.Stats{N: n, Sum: n*k + 1, Squares: wideOf(squares), Min: k, Max: k + 1}
			down := api.Stats{N: n, Sum: -n*k - 1, Squares: wideOf(squares), Min: -k - 1, Max: -k}
			l = append(l, up, down)
		}
	}
	return l
}

// wrong are stats that may not be, and what is wrong with them.
type wrong struct {
	stats api.Stats
	what  string
}

// wrongs gathers stats that may not be.
type wrongs struct{ list []wrong }

func (w *wrongs) put(what string, l ...api.Stats) {
	for _, s := range l {
		w.list = append(w.list, wrong{s, what})
	}
}

// wrongN puts stats of which N alone may not be.
func (w *wrongs) wrongN() {
	for _, x := range []int{1, -1, million, -million, million + 1, 1 << 32, least, greatest} {
		w.put("N 0 beside Sum", api.Stats{Sum: x})
		w.put("N 0 beside Min", api.Stats{Min: x}, api.Stats{Min: x, Max: greatest})
		w.put("N 0 beside Max", api.Stats{Max: x}, api.Stats{Min: least, Max: x})
		w.put("N 0 beside both", api.Stats{Min: x, Max: x}, api.Stats{Sum: x, Min: x, Max: x})
	}
	for _, x := range []api.W{{Lo: 1}, {Lo: top}, {Hi: 1}, {Hi: top}, {Hi: top, Lo: top}} {
		w.put("N 0 beside Squares", api.Stats{Squares: x}, api.Stats{Squares: x, Min: -1, Max: 1})
	}
	for _, n := range []int{billion + 1, billion + 2, 1 << 30, 1 << 31, 1 << 32, 1<<32 + 1, 1 << 40, 1 << 63 / 2, greatest - 1, greatest} {
		w.put("N is too great", api.Stats{N: n}, api.Stats{N: n, Min: -1, Max: 1})
	}
	w.put("N is too great", broad(billion+1, 0), api.Stats{N: billion + 1, Sum: billion + 1, Squares: api.W{Lo: billion + 1}, Min: 1, Max: 1})
	for _, n := range []int{-1, -2, -3, -million, -billion, -billion - 1, 1 - 1<<32, -1 << 32, -1 << 40, -1 << 62, least, least + 1} {
		w.put("N is below 0", api.Stats{N: n}, api.Stats{N: n, Min: -1, Max: 1}, api.Stats{N: n, Min: 1, Max: -1})
		w.put("N is below 0", api.Stats{N: n, Sum: n, Squares: api.W{Lo: uint64(n)}, Min: 1, Max: 1}, api.Stats{N: n, Squares: api.W{Lo: 1}})
	}
}

// wrongEnds puts stats of which Min or Max may not be.
func (w *wrongs) wrongEnds() {
	for _, n := range []int{1, 2, 3, 4, 1 << 29, billion} {
		for _, x := range []int{1, 2, million + 1, million + 2, 1 << 31, 1 << 32, 1<<32 + 1, 1 << 40, 1 << 61, 1 << 62, greatest - 1, greatest} {
			if x > million {
				w.put("Max is beyond", api.Stats{N: n, Max: x}, api.Stats{N: n, Sum: n, Squares: most(n), Max: x}, api.Stats{N: n, Squares: most(n), Min: -million, Max: x})
				w.put("Min is beyond", api.Stats{N: n, Min: -x}, api.Stats{N: n, Sum: -n, Squares: most(n), Min: -x}, api.Stats{N: n, Squares: most(n), Min: -x, Max: million})
				w.put("both are beyond", api.Stats{N: n, Min: -x, Max: x}, api.Stats{N: n, Sum: n * x, Squares: most(n), Min: x, Max: x}, api.Stats{N: n, Sum: -n * x, Squares: most(n), Min: -x, Max: -x})
			}
			w.put("Min is above Max", api.Stats{N: n, Min: x}, api.Stats{N: n, Max: -x}, api.Stats{N: n, Min: x, Max: -x}, api.Stats{N: n, Squares: most(n), Min: x, Max: x - 1})
			w.put("Min is above Max", api.Stats{N: n, Sum: n * x, Squares: most(n), Min: x, Max: x - 1}, api.Stats{N: n, Sum: -n * x, Squares: most(n), Min: 1 - x, Max: -x})
		}
		w.put("Min is beyond", api.Stats{N: n, Min: least}, api.Stats{N: n, Squares: most(n), Min: least, Max: million}, api.Stats{N: n, Squares: most(n), Min: least, Max: -million})
		w.put("both are beyond", api.Stats{N: n, Min: least, Max: greatest}, api.Stats{N: n, Min: least, Max: least}, api.Stats{N: n, Min: greatest, Max: greatest})
		w.put("Min is above Max", api.Stats{N: n, Min: greatest, Max: least}, api.Stats{N: n, Max: least}, api.Stats{N: n, Min: million, Max: -million})
	}
}

// wrongSum puts stats of which Sum alone may not be.
func (w *wrongs) wrongSum() {
	for _, n := range []int{1, 2, 4, 1000, 1 << 29, billion} {
		for _, ends := range [][2]int{{0, 0}, {-5, 7}, {-7, -5}, {5, 7}, {5, 5}, {-5, -5}, {0, 999}, {-999, 0}, {-1, 1}, {999000, 999999}} {
			low, high := n*ends[0], n*ends[1]
			for _, sum := range []int{low - 1, low - 2, low - n, low - 1<<32, least, least + 1, high + 1, high + 2, high + n, high + 1<<32, greatest - 1, greatest} {
				w.put("Sum is beyond N times Min or Max", api.Stats{N: n, Sum: sum, Squares: most(n), Min: ends[0], Max: ends[1]})
			}
		}
		for _, sum := range []int{n*million + 1, n*million + n, -n*million - 1, -n*million - n, greatest, least, 1 << 62, -1 << 62} {
			w.put("Sum is beyond all", broad(n, sum))
		}
	}
}

// wrongSquares puts stats of which Squares alone, or Squares and Sum together, may not be.
func (w *wrongs) wrongSquares() {
	for _, n := range []int{1, 2, 3, 1000, 18446744, 18446745, 1 << 29, billion} {
		for _, squares := range []api.W{plus(most(n), 1), plus(most(n), 2), {Hi: most(n).Hi + 1}, {Hi: most(n).Hi + 1, Lo: 5}, {Hi: top}, {Hi: 1 << 63}, {Hi: top, Lo: top}, {Hi: most(n).Hi, Lo: top}} {
			w.put("Squares are too great", api.Stats{N: n, Squares: squares}, api.Stats{N: n, Sum: n * million, Squares: squares, Min: million, Max: million}, api.Stats{N: n, Squares: squares, Min: -million, Max: million})
		}
		w.put("Sum squared is too great", api.Stats{N: n, Sum: n, Squares: api.W{Lo: uint64(n) - 1}, Min: 1, Max: 1}, api.Stats{N: n, Sum: 1, Min: 0, Max: 1}, api.Stats{N: n, Sum: -1, Min: -1, Max: 0})
		w.put("Sum squared is too great", api.Stats{N: n, Sum: n * million, Squares: plus(most(n), -1), Min: million, Max: million}, api.Stats{N: n, Sum: -n * million, Squares: plus(most(n), -1), Min: -million, Max: million})
	}
	w.put("Sum squared is too great", sumSquared()...)
	w.put("Sum squared is too great", api.Stats{N: 2, Sum: 3, Squares: api.W{Lo: 4}, Min: 1, Max: 2}, api.Stats{N: 2, Sum: 4, Squares: api.W{Lo: 7}, Min: 2, Max: 2})
}

// mayNot are stats that may not be: of those whose conditions can be broken alone, one is.
func mayNot() []wrong {
	var w wrongs
	w.wrongN()
	w.wrongEnds()
	w.wrongSum()
	w.wrongSquares()
	return w.list
}

// P11.1: the limits are the chapter's.
func TestLimits(t *testing.T) {
	if api.MaxCap != billion || api.MaxSample != million || api.MaxParts != 8 {
		t.Errorf("the limits are %d, %d and %d", api.MaxCap, api.MaxSample, api.MaxParts)
	}
}

// P11.1: Right of stats that are all zero, and of those that only just may be.
func TestRight(t *testing.T) {
	for _, s := range justRight() {
		checkRight(t, s, true)
	}
}

// P11.1: Right of stats that may not be.
func TestNotRight(t *testing.T) {
	for _, x := range mayNot() {
		if Right(x.stats) || mayBe(x.stats) {
			t.Errorf("Right(%v) = %t; %s", x.stats, Right(x.stats), x.what)
		}
	}
}

// P11.1: Right by hand, at each edge from within and from without.
func TestRightByHand(t *testing.T) {
	checkRight(t, api.Stats{N: 3, Sum: 2, Squares: api.W{Lo: 14}, Min: -2, Max: 3}, true)
	checkRight(t, api.Stats{N: 3, Sum: 9, Squares: api.W{Lo: 27}, Min: -2, Max: 3}, true)
	checkRight(t, api.Stats{N: 3, Sum: 9, Squares: api.W{Lo: 26}, Min: -2, Max: 3}, false)
	checkRight(t, api.Stats{N: 3, Sum: 10, Squares: api.W{Lo: 100}, Min: -2, Max: 3}, false)
	checkRight(t, api.Stats{N: 3, Sum: -6, Squares: api.W{Lo: 12}, Min: -2, Max: 3}, true)
	checkRight(t, api.Stats{N: 3, Sum: -7, Squares: api.W{Lo: 100}, Min: -2, Max: 3}, false)
	checkRight(t, api.Stats{N: 3, Sum: 2, Squares: api.W{Lo: 3 * million * million}, Min: -2, Max: 3}, true)
	checkRight(t, api.Stats{N: 3, Sum: 2, Squares: api.W{Lo: 3*million*million + 1}, Min: -2, Max: 3}, false)
	checkRight(t, api.Stats{N: 3, Sum: 2, Squares: api.W{Hi: 1, Lo: 14}, Min: -2, Max: 3}, false)
	// 18446745 samples are the fewest whose Squares may have a high half that is not 0.
	checkRight(t, api.Stats{N: 18446744, Squares: api.W{Hi: 1}}, false)
	checkRight(t, api.Stats{N: 18446745, Squares: api.W{Hi: 1}}, true)
	checkRight(t, api.Stats{N: billion, Squares: api.W{Hi: 54, Lo: 3875820019684212736}}, true)
	checkRight(t, api.Stats{N: billion, Squares: api.W{Hi: 54, Lo: 3875820019684212737}}, false)
}

// P11.1: Right of all small stats.
func TestRightOfAllSmall(t *testing.T) {
	right := 0
	for n := -2; n <= 4; n++ {
		for sum := -9; sum <= 9; sum++ {
			for squares := range uint64(18) {
				for ends := range 25 {
					s := api.Stats{N: n, Sum: sum, Squares: api.W{Lo: squares}, Min: ends/5 - 2, Max: ends%5 - 2}
					checkRight(t, s, mayBe(s))
					if Right(s) {
						right++
					}
				}
			}
		}
	}
	if right < 1000 {
		t.Errorf("of the small stats %d may be", right)
	}
}

// drawnNear are stats, drawn near those that just may be, by changes of one field or two.
func drawnNear(draw *rand.Rand, start api.Stats) api.Stats {
	near := func(x int) int { return x + draw.Intn(5) - 2 }
	s := start
	for range 1 + draw.Intn(2) {
		switch draw.Intn(6) {
		case 0:
			s.N = near(s.N)
		case 1:
			s.Sum = near(s.Sum)
		case 2:
			s.Min = near(s.Min)
		case 3:
			s.Max = near(s.Max)
		case 4:
			s.Squares = plus(s.Squares, int64(draw.Intn(3)))
		case 5:
			if s.Squares != (api.W{}) {
				s.Squares = plus(s.Squares, -1)
			}
		}
	}
	return s
}

// P11.1: Right of stats near those that just may be, and of drawn ones.
func TestRightOfDrawn(t *testing.T) {
	draw := rand.New(rand.NewSource(111))
	starts := justRight()
	numbers := []int{0, 1, -1, 2, 3, million, -million, million + 1, -million - 1, billion, -billion, billion + 1, billion * million, -billion * million, 1 << 32, 1 << 62, least, greatest}
	number := func() int { return numbers[draw.Intn(len(numbers))] }
	words := []uint64{0, 0, 0, 1, 2, 54, million, billion, million * million, 3875820019684212736, 1 << 63, top}
	word := func() uint64 { return words[draw.Intn(len(words))] }
	for range 100000 {
		near := drawnNear(draw, starts[draw.Intn(len(starts))])
		checkRight(t, near, mayBe(near))
		far := api.Stats{N: number(), Sum: number(), Squares: api.W{Hi: word(), Lo: word()}, Min: number(), Max: number()}
		checkRight(t, far, mayBe(far))
	}
}

// edges are samples at, one within and near the ends, and between them.
func edges() []int {
	return []int{0, 1, -1, 2, -2, 999, -1000, million / 2, million - 1, 1 - million, million, -million}
}

// beyond are numbers that are no samples.
func beyond() []int {
	return []int{million + 1, -million - 1, million + 2, -million - 2, 1 << 31, -1 << 31, 1 << 32, 1<<32 + 1, 1 - 1<<32, -1 << 32, 3037000500, 1 << 62, -1 << 62, greatest - 1, greatest, least + 1, least}
}

// P11.1, R3: Of no samples, of one, and by hand.
func TestOf(t *testing.T) {
	checkOf(t, nil, api.Stats{}, api.OK)
	checkOf(t, []int{}, api.Stats{}, api.OK)
	checkOf(t, []int{0}, api.Stats{N: 1}, api.OK)
	checkOf(t, []int{5}, api.Stats{N: 1, Sum: 5, Squares: api.W{Lo: 25}, Min: 5, Max: 5}, api.OK)
	checkOf(t, []int{-5}, api.Stats{N: 1, Sum: -5, Squares: api.W{Lo: 25}, Min: -5, Max: -5}, api.OK)
	checkOf(t, []int{million}, api.Stats{N: 1, Sum: million, Squares: api.W{Lo: million * million}, Min: million, Max: million}, api.OK)
	checkOf(t, []int{-million}, api.Stats{N: 1, Sum: -million, Squares: api.W{Lo: million * million}, Min: -million, Max: -million}, api.OK)
	checkOf(t, []int{-4, -3}, api.Stats{N: 2, Sum: -7, Squares: api.W{Lo: 25}, Min: -4, Max: -3}, api.OK)
	checkOf(t, []int{3, 4}, api.Stats{N: 2, Sum: 7, Squares: api.W{Lo: 25}, Min: 3, Max: 4}, api.OK)
	checkOf(t, []int{0, 3, 3, 0}, api.Stats{N: 4, Sum: 6, Squares: api.W{Lo: 18}, Min: 0, Max: 3}, api.OK)
	for _, x := range edges() {
		checkOf(t, []int{x}, single(x), api.OK)
		for _, y := range edges() {
			checkOf(t, []int{x, y}, of(x, y), api.OK)
		}
	}
}

// P11.1: the chapter's example.
func TestExample(t *testing.T) {
	want := api.Stats{N: 3, Sum: 2, Squares: api.W{Lo: 14}, Min: -2, Max: 3}
	checkOf(t, []int{1, 3, -2}, want, api.OK)
	checkParts(t, []int{1, 3, -2}, want, api.OK)
	checkSpread(t, want, api.W{Lo: 38}, api.OK)
}

// drawn are so many samples, of which none is refused.
func drawn(draw *rand.Rand, n int) []int {
	l := make([]int, n)
	for i := range l {
		if l[i] = draw.Intn(2*million+1) - million; draw.Intn(3) == 0 {
			l[i] = edges()[draw.Intn(len(edges()))]
		}
	}
	return l
}

// P11.1, R2: Of samples of which one is refused, at each place, and of which several are.
func TestOfRefused(t *testing.T) {
	draw := rand.New(rand.NewSource(112))
	for _, x := range beyond() {
		for n := 1; n <= 20; n++ {
			for place := range n {
				l := drawn(draw, n)
				l[place] = x
				checkOf(t, l, api.Stats{}, api.ErrRange)
			}
		}
		checkOf(t, []int{x, x}, api.Stats{}, api.ErrRange)
		checkOf(t, []int{x, 0, -x}, api.Stats{}, api.ErrRange)
		checkOf(t, []int{0, 5, x, 5, 0, x}, api.Stats{}, api.ErrRange)
	}
	checkOf(t, beyond(), api.Stats{}, api.ErrRange)
}

// P11.1: Of equal samples, and of many.
func TestOfEqualAndMany(t *testing.T) {
	draw := rand.New(rand.NewSource(113))
	for _, x := range edges() {
		for _, n := range []int{1, 2, 3, 10, 1000} {
			checkOf(t, slices.Repeat([]int{x}, n), api.Stats{N: n, Sum: n * x, Squares: wideOf(times(n, x, x)), Min: x, Max: x}, api.OK)
		}
	}
	for _, n := range []int{2, 3, 4, 7, 8, 9, 10, 100, 1000, 100000} {
		for range 1 + 1000/n {
			l := drawn(draw, n)
			checkOf(t, l, of(l...), api.OK)
		}
	}
}

// P11.1, P11.3, P2: so many samples that their squares are more than a word holds.
func TestOfSquaresBeyondAWord(t *testing.T) {
	n := 18446746
	l := slices.Repeat([]int{million, -million}, n/2)
	want := api.Stats{N: n, Squares: most(n), Min: -million, Max: million}
	if want.Squares.Hi != 1 {
		t.Fatalf("the squares of %d samples are %v", n, want.Squares)
	}
	if got, why := Of(l); got != want || why != api.OK {
		t.Errorf("Of %d samples = %v, %d; want %v", n, got, why, want)
	}
	for _, parts := range []int{1, 3, 8} {
		if got, why := Parts(l, parts); got != want || why != api.OK {
			t.Errorf("Parts of %d samples, %d = %v, %d; want %v", n, parts, got, why, want)
		}
	}
}

// P11.2, R2: Join of stats that may not be, on either side and on both, ahead of ErrFull.
func TestJoinOfWrong(t *testing.T) {
	right := []api.Stats{{}, single(5), of(1, 3, -2), {N: billion}, broad(billion, 0)}
	full := []api.Stats{{N: billion, Min: 1}, {N: billion, Sum: 1}, {N: billion, Max: million + 1}, {N: billion + 1}, {N: greatest}, {N: least}}
	for _, x := range mayNot() {
		for _, s := range right {
			checkJoin(t, x.stats, s, api.Stats{}, api.ErrArg)
		}
		for _, s := range full {
			checkJoin(t, x.stats, s, api.Stats{}, api.ErrArg)
		}
		checkJoin(t, x.stats, x.stats, api.Stats{}, api.ErrArg)
	}
}

// P11.2: Join with stats of no samples.
func TestJoinOfNone(t *testing.T) {
	none := api.Stats{}
	checkJoin(t, none, none, none, api.OK)
	for _, s := range justRight() {
		checkJoin(t, s, none, s, api.OK)
	}
	// Min and Max of none are 0, and no sample is.
	checkJoin(t, none, of(5, 7), of(5, 7), api.OK)
	checkJoin(t, none, of(-7, -5), of(-7, -5), api.OK)
}

// P11.2, R2: Join of stats of as many samples as may be together, and of one more.
func TestJoinFull(t *testing.T) {
	for _, n := range []int{1, 2, 1000, million, billion / 2, billion - 2, billion - 1} {
		rest := billion - n
		checkJoin(t, api.Stats{N: n}, api.Stats{N: rest}, api.Stats{N: billion}, api.OK)
		checkJoin(t, api.Stats{N: n}, api.Stats{N: rest - 1}, api.Stats{N: billion - 1}, api.OK)
		checkJoin(t, broad(n, -n*million), broad(rest, rest*million), broad(billion, (rest-n)*million), api.OK)
		checkJoin(t, api.Stats{N: n}, api.Stats{N: rest + 1}, api.Stats{}, api.ErrFull)
		checkJoin(t, broad(n, 0), broad(rest+1, 0), api.Stats{}, api.ErrFull)
		checkJoin(t, api.Stats{N: n}, api.Stats{N: billion}, api.Stats{}, api.ErrFull)
	}
	checkJoin(t, api.Stats{N: billion}, api.Stats{}, api.Stats{N: billion}, api.OK)
	checkJoin(t, api.Stats{N: billion}, api.Stats{N: billion}, api.Stats{}, api.ErrFull)
	checkJoin(t, broad(billion, billion*million), broad(billion, billion*million), api.Stats{}, api.ErrFull)
}

// P11.2: Join by hand, and with squares of which a carry goes to the high half.
func TestJoinByHand(t *testing.T) {
	checkJoin(t, of(1), of(3, -2), of(1, 3, -2), api.OK)
	checkJoin(t, of(5, 6), of(7), api.Stats{N: 3, Sum: 18, Squares: api.W{Lo: 110}, Min: 5, Max: 7}, api.OK)
	checkJoin(t, of(-6, -5), of(-7), api.Stats{N: 3, Sum: -18, Squares: api.W{Lo: 110}, Min: -7, Max: -5}, api.OK)
	checkJoin(t, of(million), of(-million), api.Stats{N: 2, Squares: api.W{Lo: 2 * million * million}, Min: -million, Max: million}, api.OK)
	a := api.Stats{N: 18446744, Squares: most(18446744)}
	checkJoin(t, a, a, api.Stats{N: 36893488, Squares: most(36893488)}, api.OK)
	checkJoin(t, a, api.Stats{N: 1, Squares: most(1)}, api.Stats{N: 18446745, Squares: most(18446745)}, api.OK)
}

// P11.2: Join of stats that may be is what both are together, and may be.
func TestJoinOfBoth(t *testing.T) {
	for _, a := range justRight() {
		for _, b := range justRight() {
			want, why := api.Stats{N: a.N + b.N, Sum: a.Sum + b.Sum, Squares: wideOf(new(big.Int).Add(bigOf(a.Squares), bigOf(b.Squares))), Min: min(a.Min, b.Min), Max: max(a.Max, b.Max)}, api.OK
			if a.N == 0 {
				want = b
			} else if b.N == 0 {
				want = a
			} else if want.N > billion {
				want, why = api.Stats{}, api.ErrFull
			}
			checkJoin(t, a, b, want, why)
			checkRight(t, want, true)
		}
	}
}

// P11.3, R2: Parts of numbers of parts that may not be, ahead of what is wrong with the samples.
func TestWrongParts(t *testing.T) {
	wrongParts := []int{0, -1, -2, -8, 9, 10, 16, 100, 1 << 31, 1 << 32, 1<<32 + 1, 1<<32 + 8, 1 - 1<<32, -1 << 32, least, least + 1, greatest - 1, greatest}
	for _, parts := range wrongParts {
		for _, l := range [][]int{nil, {}, {0}, {1, 3, -2}, {million + 1}, {least}, {5, greatest, 7}, make([]int, 100), beyond(), edges()} {
			if got, why := Parts(l, parts); got != (api.Stats{}) || why != api.ErrArg {
				t.Errorf("Parts(%v, %d) = %v, %d; want ErrArg", l, parts, got, why)
			}
		}
	}
}

// P11.3: Parts of no samples, of fewer than parts, of just as many, of one more, and of many, against Of.
func TestParts(t *testing.T) {
	draw := rand.New(rand.NewSource(1131))
	checkParts(t, nil, api.Stats{}, api.OK)
	checkParts(t, []int{}, api.Stats{}, api.OK)
	for n := range 50 {
		for range 10 {
			l := drawn(draw, n)
			checkParts(t, l, of(l...), api.OK)
			got, why := Of(l)
			checkParts(t, l, got, why)
		}
	}
	for _, n := range []int{100, 999, 1000, 1001, 30000} {
		l := drawn(draw, n)
		checkParts(t, l, of(l...), api.OK)
	}
	// Each sample counts once: each has a bit of the sum for itself.
	for n := 1; n <= 19; n++ {
		var l []int
		for i := range n {
			l = append(l, 1<<i)
		}
		checkParts(t, l, of(l...), api.OK)
	}
	// Where all samples are above 0, or below, a part without samples has no least and no greatest.
	checkParts(t, []int{7, 5}, of(7, 5), api.OK)
	checkParts(t, []int{-7, -5}, of(-7, -5), api.OK)
}

// P11.3, R2: Parts of samples of which one is refused, at each place and so in each part, and of which several are.
func TestPartsRefused(t *testing.T) {
	draw := rand.New(rand.NewSource(1132))
	for _, x := range beyond() {
		for _, n := range []int{1, 2, 7, 8, 9, 17, 40} {
			for place := range n {
				l := drawn(draw, n)
				l[place] = x
				checkParts(t, l, api.Stats{}, api.ErrRange)
			}
			checkParts(t, slices.Repeat([]int{x}, n), api.Stats{}, api.ErrRange)
		}
	}
	l := drawn(draw, 10000)
	for range 20 {
		l[draw.Intn(len(l))] = beyond()[draw.Intn(len(beyond()))]
		checkParts(t, l, api.Stats{}, api.ErrRange)
	}
}

// P11.4, R2: Spread of stats that may not be, and of none.
func TestSpreadErrors(t *testing.T) {
	checkSpread(t, api.Stats{}, api.W{}, api.ErrNone)
	for _, x := range mayNot() {
		checkSpread(t, x.stats, api.W{}, api.ErrArg)
	}
}

// P11.4: Spread of one sample, of equal ones, and of the greatest that may be.
func TestSpread(t *testing.T) {
	for _, x := range edges() {
		checkSpread(t, single(x), api.W{}, api.OK)
		for _, n := range []int{2, 3, 1000, million, billion} {
			checkSpread(t, api.Stats{N: n, Sum: n * x, Squares: wideOf(times(n, x, x)), Min: x, Max: x}, api.W{}, api.OK)
		}
	}
	checkSpread(t, broad(billion, 0), wideOf(times(billion, billion, million, million)), api.OK)
	checkSpread(t, broad(billion, billion*million), api.W{}, api.OK)
	checkSpread(t, broad(billion, -billion*million), api.W{}, api.OK)
	checkSpread(t, broad(1, 0), api.W{Lo: million * million}, api.OK)
	checkSpread(t, of(-million, million), api.W{Lo: 4 * million * million}, api.OK)
	checkSpread(t, of(0, 1), api.W{Lo: 1}, api.OK)
	checkSpread(t, of(5, 7), api.W{Lo: 4}, api.OK)
	checkSpread(t, of(1, 2, 3, 4), api.W{Lo: 20}, api.OK)
	for _, s := range justRight()[1:] {
		far := new(big.Int).Mul(bigOf(s.Squares), big.NewInt(int64(s.N)))
		checkSpread(t, s, wideOf(far.Sub(far, times(s.Sum, s.Sum))), api.OK)
	}
}

// differences is the sum of the squares of all differences, of each two samples.
func differences(l []int) api.W {
	sum := new(big.Int)
	for i, x := range l {
		for _, y := range l[i+1:] {
			sum.Add(sum, times(x-y, x-y))
		}
	}
	return wideOf(sum)
}

// same is whether all samples are.
func same(l []int) bool { return len(slices.Compact(slices.Clone(l))) == 1 }

// lists are all lists of the samples, of so many at most.
func lists(samples []int, longest int) [][]int {
	all := [][]int{nil}
	for from := 0; len(all[from]) < longest; from++ {
		for _, x := range samples {
			all = append(all, append(slices.Clone(all[from]), x))
		}
	}
	return all
}

// checkFar holds the spread of samples against all their differences.
func checkFar(t *testing.T, l []int) {
	t.Helper()
	s, _ := Of(l)
	far, why := Spread(s)
	if far != differences(l) || why != api.OK {
		t.Errorf("the spread of %v is %v, %d; want %v", l, far, why, differences(l))
	}
	if (far == api.W{}) != same(l) {
		t.Errorf("the spread of %v is %v", l, far)
	}
}

// P11.5: the spread is that of all differences, and 0 just if all samples are the same.
func TestSpreadOfDifferences(t *testing.T) {
	for _, l := range lists([]int{-2, 0, 1}, 6)[1:] {
		checkFar(t, l)
	}
	for _, l := range lists([]int{-million, million - 1, million}, 4)[1:] {
		checkFar(t, l)
	}
	draw := rand.New(rand.NewSource(1151))
	for n := 1; n <= 40; n++ {
		for range 5 {
			l := drawn(draw, n)
			checkFar(t, l)
			// All samples the same, but one.
			l = slices.Repeat(l[:1], n)
			checkFar(t, l)
			l[draw.Intn(n)] = edges()[draw.Intn(len(edges()))]
			checkFar(t, l)
		}
	}
}

// P11.5: what is added to all samples is nothing to the spread.
func TestSpreadOfMoved(t *testing.T) {
	draw := rand.New(rand.NewSource(1152))
	for range 2000 {
		l := drawn(draw, 1+draw.Intn(20))
		for i := range l {
			l[i] /= 3
		}
		s, _ := Of(l)
		far, _ := Spread(s)
		for _, more := range []int{1, -1, 1000, million / 2, -million / 2, million - slices.Max(l), -million - slices.Min(l)} {
			moved := slices.Clone(l)
			for i := range moved {
				moved[i] += more
			}
			s, why := Of(moved)
			if why != api.OK {
				t.Fatalf("Of(%v) tells %d", moved, why)
			}
			checkSpread(t, s, far, api.OK)
		}
	}
}

// permuted are all orders of the samples.
func permuted(l []int) [][]int {
	if len(l) == 0 {
		return [][]int{nil}
	}
	var all [][]int
	for i, x := range l {
		for _, rest := range permuted(slices.Delete(slices.Clone(l), i, i+1)) {
			all = append(all, append(rest, x))
		}
	}
	return all
}

// P11.5: samples in another order have the same stats.
func TestOrder(t *testing.T) {
	for _, l := range [][]int{{1, 3, -2}, {0, 5, 5, -million, million}, {4, 3, 2, 1, 0, -1}, {-9, -8, -9, -7, 2, 2}} {
		want := of(l...)
		for _, other := range permuted(l) {
			checkOf(t, other, want, api.OK)
			checkParts(t, other, want, api.OK)
		}
	}
	draw := rand.New(rand.NewSource(1153))
	for range 200 {
		l := drawn(draw, draw.Intn(200))
		want := of(l...)
		for range 5 {
			draw.Shuffle(len(l), func(i, j int) { l[i], l[j] = l[j], l[i] })
			checkOf(t, l, want, api.OK)
			checkParts(t, l, want, api.OK)
		}
		slices.Sort(l)
		checkOf(t, l, want, api.OK)
		slices.Reverse(l)
		checkOf(t, l, want, api.OK)
	}
}

// P11.2, P11.5: samples that are cut at every place, in two parts and in three, are all of them at once.
func TestCuts(t *testing.T) {
	draw := rand.New(rand.NewSource(1154))
	for range 100 {
		l := drawn(draw, draw.Intn(30))
		want, _ := Of(l)
		for second := range len(l) + 1 {
			tail, _ := Of(l[second:])
			for first := range second + 1 {
				head, _ := Of(l[:first])
				middle, _ := Of(l[first:second])
				left, why := Join(head, middle)
				if why != api.OK {
					t.Fatalf("Join(%v, %v) tells %d", head, middle, why)
				}
				checkJoin(t, left, tail, want, api.OK)
				right, _ := Join(middle, tail)
				checkJoin(t, head, right, want, api.OK)
			}
		}
	}
}

// P11.1, P11.5: what Of, Parts and Join tell may be.
func TestAnswersMayBe(t *testing.T) {
	draw := rand.New(rand.NewSource(1155))
	for range 2000 {
		l := drawn(draw, draw.Intn(40))
		if draw.Intn(4) == 0 {
			l = append(l, beyond()[draw.Intn(len(beyond()))])
		}
		s, _ := Of(l)
		parts, _ := Parts(l, 1+draw.Intn(8))
		joined, _ := Join(s, parts)
		checkRight(t, s, true)
		checkRight(t, parts, true)
		checkRight(t, joined, true)
	}
}

// R4: no call changes the list that it was handed, nor what stands in the room behind.
func TestWhatIsHandedInStays(t *testing.T) {
	draw := rand.New(rand.NewSource(4))
	for n := range 40 {
		for _, room := range []int{0, 1, 8, 100} {
			all := slices.Concat(drawn(draw, n), slices.Repeat([]int{least + 77}, room))
			if n%3 == 2 {
				all[draw.Intn(n)] = greatest
			}
			l, whole := all[:n], slices.Clone(all)
			want, why := reckoned(l)
			checkOf(t, l, want, why)
			checkParts(t, l, want, why)
			Parts(l, 0)
			Parts(l, 9)
			if !slices.Equal(all, whole) {
				t.Fatalf("of %v there is %v", whole, all)
			}
		}
	}
}

// R1: a list that is written over when a call has answered is nothing to that call: none of its parts is looked at any more.
func TestAnsweredIsDone(t *testing.T) {
	draw := rand.New(rand.NewSource(6))
	l := make([]int, 1000)
	for range 300 {
		copy(l, drawn(draw, len(l)))
		want, why := reckoned(l)
		got, told := Parts(l, 1+draw.Intn(8))
		for i := range l {
			l[i] = greatest
		}
		if got != want || told != why {
			t.Fatalf("Parts = %v, %d; want %v, %d", got, told, want, why)
		}
	}
}

// questions are calls with their right answers, refused ones among them.
func questions() []func() bool {
	var l []func() bool
	draw := rand.New(rand.NewSource(1))
	for i := range 150 {
		samples, others := drawn(draw, i), drawn(draw, draw.Intn(50))
		if i%5 == 4 {
			samples[draw.Intn(i)] = beyond()[draw.Intn(len(beyond()))]
		}
		want, why := reckoned(samples)
		parts := 1 + i%8
		joined := of(others...)
		if why == api.OK {
			joined = of(slices.Concat(samples, others)...)
		}
		l = append(l, func() bool {
			s, told := Of(samples)
			return s == want && told == why && Right(s)
		}, func() bool {
			s, told := Parts(samples, parts)
			return s == want && told == why
		}, func() bool {
			s, told := Parts(samples, 0-parts)
			return s == api.Stats{} && told == api.ErrArg
		}, func() bool {
			s, told := Join(want, of(others...))
			return s == joined && told == api.OK
		}, func() bool {
			far, told := Spread(want)
			if want.N == 0 {
				return far == api.W{} && told == api.ErrNone
			}
			return far == differences(samples) && told == api.OK
		})
	}
	for _, x := range mayNot()[:100] {
		l = append(l, func() bool {
			s, why := Join(x.stats, x.stats)
			far, told := Spread(x.stats)
			return !Right(x.stats) && s == api.Stats{} && why == api.ErrArg && far == api.W{} && told == api.ErrArg
		})
	}
	return l
}

// R1: calls in any order, many times over, answer the same.
func TestCallsInAnyOrder(t *testing.T) {
	draw := rand.New(rand.NewSource(2))
	l := questions()
	for range 5 {
		for _, i := range draw.Perm(len(l)) {
			if !l[i]() {
				t.Fatalf("question %d has another answer", i)
			}
		}
	}
}

// R1: calls of several goroutines at once answer the same, of the same lists.
func TestCallsAtOnce(t *testing.T) {
	l := questions()
	var begun, ended sync.WaitGroup
	begun.Add(1)
	for g := range 16 {
		ended.Go(func() {
			begun.Wait()
			draw := rand.New(rand.NewSource(int64(g)))
			for range 2 {
				for _, i := range draw.Perm(len(l)) {
					if !l[i]() {
						t.Errorf("question %d has another answer in goroutine %d", i, g)
						return
					}
				}
			}
		})
	}
	begun.Done()
	ended.Wait()
}
