package move

import (
	"math"
	"math/big"
	"math/rand"
	"slices"
	"sync"
	"testing"

	"datum/api"
)

const (
	least    = math.MinInt
	greatest = math.MaxInt
	million  = 1000000
	billion  = 1000000000
	farthest = 2 * million
)

// most is the greatest sum that n samples can have, of n from 1 to 10^9.
func most(n int) int { return (n - 1) * farthest }

// isIn is whether x is from low to high, all of any size.
func isIn(x int, low, high *big.Int) bool {
	held := big.NewInt(int64(x))
	return low.Cmp(held) <= 0 && held.Cmp(high) <= 0
}

// mayBe is whether the move may be, as the chapter's words say it.
func mayBe(m api.Move) bool {
	if m.N == 0 {
		return m.Last == 0 && m.Sum == 0
	}
	top := new(big.Int).Sub(big.NewInt(int64(m.N)), big.NewInt(1))
	top.Mul(top, big.NewInt(farthest))
	n := isIn(m.N, big.NewInt(0), big.NewInt(billion))
	last := isIn(m.Last, big.NewInt(-million), big.NewInt(million))
	return n && last && isIn(m.Sum, big.NewInt(0), top)
}

// isBeyond is whether x is no sample.
func isBeyond(x int) bool { return x < -million || million < x }

// far is how far two samples are apart.
func far(a, b int) int {
	if a < b {
		return b - a
	}
	return a - b
}

// sum is what all are together.
func sum(l []int) int {
	all := 0
	for _, x := range l {
		all += x
	}
	return all
}

// reckoned is what Run is to tell of a move that may be, found apart from the program: each sample of the whole line but the first is held against the one at the place ahead.
func reckoned(m api.Move, l []int) (api.Move, []int, api.Errno) {
	if slices.ContainsFunc(l, isBeyond) {
		return api.Move{}, nil, api.ErrRange
	}
	if m.N+len(l) > billion {
		return api.Move{}, nil, api.ErrFull
	}
	line := slices.Clone(l)
	if m.N > 0 {
		line = slices.Insert(line, 0, m.Last)
	}
	if len(line) == 0 {
		return m, nil, api.OK
	}
	steps := make([]int, len(line)-1)
	for i := range steps {
		steps[i] = far(line[i], line[i+1])
	}
	return api.Move{N: m.N + len(l), Last: line[len(line)-1], Sum: m.Sum + sum(steps)}, steps, api.OK
}

// checkRight holds Right's answer against what is wanted, and the chapter's words against both.
func checkRight(t *testing.T, m api.Move, want bool) {
	t.Helper()
	if got := Right(m); got != want || mayBe(m) != want {
		t.Errorf("Right(%v) = %t; want %t, by the chapter's words %t", m, got, want, mayBe(m))
	}
}

// checkNext holds Next's answer against what is wanted.
func checkNext(t *testing.T, m api.Move, x int, want api.Move, step int, why api.Errno) {
	t.Helper()
	if got, told, err := Next(m, x); got != want || told != step || err != why {
		t.Errorf("Next(%v, %d) = %v, %d, %d; want %v, %d, %d", m, x, got, told, err, want, step, why)
	}
}

// checkRun holds Run's answer against what is wanted.
func checkRun(t *testing.T, m api.Move, l []int, want api.Move, steps []int, why api.Errno) {
	t.Helper()
	if got, told, err := Run(m, l); got != want || !slices.Equal(told, steps) || err != why {
		t.Errorf("Run(%v, %v) = %v, %v, %d; want %v, %v, %d", m, l, got, told, err, want, steps, why)
	}
}

// checkRuns holds Run's answer against what is reckoned.
func checkRuns(t *testing.T, m api.Move, l []int) {
	t.Helper()
	want, steps, why := reckoned(m, l)
	checkRun(t, m, l, want, steps, why)
}

// edges are samples, the first and the last that may be among them.
func edges() []int {
	return []int{-million, 1 - million, 2 - million, -1000, -2, -1, 0, 1, 2, 7, 1000, million - 2, million - 1, million}
}

// beyond are numbers that are no samples.
func beyond() []int {
	return []int{-million - 1, million + 1, -million - 2, million + 2, -farthest, farthest, billion, 1 << 31, 1 << 32, 1<<32 + 1, -1 << 31, -1 << 32, 1 - 1<<32, 1 << 62, -1 << 62, least, least + 1, greatest - 1, greatest}
}

// counts are how many samples a move may have, some at least.
func counts() []int {
	return []int{1, 2, 3, 10, 1000, million, 1 << 29, billion - 2, billion - 1, billion}
}

// may are moves that may be, some of them only just.
func may() []api.Move {
	l := []api.Move{{}}
	for _, n := range counts() {
		for _, last := range edges() {
			l = append(l, api.Move{N: n, Last: last}, api.Move{N: n, Last: last, Sum: most(n)})
			if n > 1 {
				l = append(l, api.Move{N: n, Last: last, Sum: 1}, api.Move{N: n, Last: last, Sum: most(n) - 1}, api.Move{N: n, Last: last, Sum: most(n) / 2})
			}
		}
	}
	return l
}

// wrong is a move that may not be, and what is wrong with it.
type wrong struct {
	move api.Move
	what string
}

// wrongs gathers moves that may not be.
type wrongs struct{ list []wrong }

func (w *wrongs) put(what string, l ...api.Move) {
	for _, m := range l {
		w.list = append(w.list, wrong{m, what})
	}
}

// wrongN puts moves of which N may not be, or not beside what else they have.
func (w *wrongs) wrongN() {
	for _, x := range []int{1, -1, 2, million, -million, million + 1, farthest, -farthest, 1 << 32, -1 << 32, least, greatest} {
		w.put("N 0 beside Last", api.Move{Last: x})
		w.put("N 0 beside Sum", api.Move{Sum: x})
		w.put("N 0 beside both", api.Move{Last: x, Sum: x}, api.Move{Last: 1, Sum: x}, api.Move{Last: x, Sum: 1}, api.Move{Last: -x, Sum: x})
		w.put("N 1 beside Sum", api.Move{N: 1, Sum: x}, api.Move{N: 1, Last: 5, Sum: x}, api.Move{N: 1, Last: million, Sum: x}, api.Move{N: 1, Last: -million, Sum: x})
	}
	for _, n := range []int{-1, -2, -3, -million, -billion, -billion - 1, -1 << 31, 1 - 1<<31, -1 << 32, 1 - 1<<32, 5 - 1<<32, -1 << 62, least, least + 1} {
		w.put("N is below 0", api.Move{N: n}, api.Move{N: n, Last: 1}, api.Move{N: n, Last: -million}, api.Move{N: n, Sum: 1}, api.Move{N: n, Sum: -1})
		// A sum that is bounded by what so many samples would have.
		w.put("N is below 0", api.Move{N: n, Sum: most(n)}, api.Move{N: n, Sum: most(n) / 2}, api.Move{N: n, Sum: least}, api.Move{N: n, Sum: greatest})
	}
	for _, n := range []int{billion + 1, billion + 2, 1 << 30, 1 << 31, 1 << 32, 1<<32 + 1, 1<<32 + 10, 1 << 40, 1 << 62, greatest - 1, greatest} {
		w.put("N is too great", api.Move{N: n}, api.Move{N: n, Last: million}, api.Move{N: n, Last: -1, Sum: 1}, api.Move{N: n, Sum: most(billion)}, api.Move{N: n, Sum: most(billion + 1)})
	}
}

// wrongLast puts moves of which Last alone may not be.
func (w *wrongs) wrongLast() {
	for _, n := range counts() {
		for _, x := range beyond() {
			w.put("Last is beyond", api.Move{N: n, Last: x}, api.Move{N: n, Last: x, Sum: most(n)}, api.Move{N: n, Last: x, Sum: most(n) / 2})
		}
	}
}

// wrongSum puts moves of which Sum alone may not be.
func (w *wrongs) wrongSum() {
	for _, n := range counts() {
		for _, last := range edges() {
			for _, x := range []int{-1, -2, -million, -farthest, -most(n) - 1, -1 << 31, -1 << 32, 1 - 1<<32, -1 << 62, least, least + 1} {
				w.put("Sum is below 0", api.Move{N: n, Last: last, Sum: x})
			}
			for _, x := range []int{most(n) + 1, most(n) + 2, most(n) + million, most(n + 1), most(billion) + 1, most(billion + 1), 1 << 62, greatest - 1, greatest} {
				w.put("Sum is too great", api.Move{N: n, Last: last, Sum: x})
			}
		}
	}
}

// mayNot are moves that may not be, most of which break one condition alone.
func mayNot() []wrong {
	var w wrongs
	w.wrongN()
	w.wrongLast()
	w.wrongSum()
	w.put("all", api.Move{N: -1, Last: million + 1, Sum: -1}, api.Move{N: billion + 1, Last: least, Sum: greatest}, api.Move{N: least, Last: least, Sum: least}, api.Move{N: greatest, Last: greatest, Sum: greatest})
	return w.list
}

// P12.1: the limits are the chapter's.
func TestLimits(t *testing.T) {
	if api.MaxCap != billion || api.MaxSample != million {
		t.Errorf("the limits are %d and %d", api.MaxCap, api.MaxSample)
	}
}

// P12.1: Right of moves that may be, some of them only just.
func TestRight(t *testing.T) {
	for _, m := range may() {
		checkRight(t, m, true)
	}
	checkRight(t, api.Move{N: 3, Last: -2, Sum: 9}, true)
	checkRight(t, api.Move{N: billion, Last: million, Sum: 1999999998000000}, true)
	checkRight(t, api.Move{N: billion, Last: million, Sum: 1999999998000001}, false)
	checkRight(t, api.Move{N: 2, Last: 0, Sum: 2000000}, true)
	checkRight(t, api.Move{N: 2, Last: 0, Sum: 2000001}, false)
}

// P12.1: Right of moves that may not be.
func TestNotRight(t *testing.T) {
	for _, x := range mayNot() {
		if got := Right(x.move); got || mayBe(x.move) {
			t.Errorf("Right(%v) = %t, by the chapter's words %t; %s", x.move, got, mayBe(x.move), x.what)
		}
	}
}

// P12.1: Right of all moves of numbers that are near where something ends.
func TestRightOfAll(t *testing.T) {
	numbers := slices.Concat(edges(), beyond(), counts(), []int{-billion, billion + 1, most(billion) - 1, most(billion), most(billion) + 1, farthest - 1, farthest + 1, 2*farthest + 1})
	for _, n := range numbers {
		for _, last := range numbers {
			for _, sum := range numbers {
				m := api.Move{N: n, Last: last, Sum: sum}
				checkRight(t, m, mayBe(m))
			}
		}
	}
}

// P12.1, P12.2, R2: Next and Run of moves that may not be, ahead of what is wrong with the samples, and of how many they are.
func TestOfMovesThatMayNotBe(t *testing.T) {
	none := api.Move{}
	for _, x := range mayNot() {
		for _, sample := range []int{0, 5, million, million + 1, -million - 1, least, greatest, x.move.Last} {
			checkNext(t, x.move, sample, none, 0, api.ErrArg)
			checkRun(t, x.move, []int{sample}, none, nil, api.ErrArg)
			checkRun(t, x.move, []int{1, sample, 4}, none, nil, api.ErrArg)
		}
		checkRun(t, x.move, nil, none, nil, api.ErrArg)
		checkRun(t, x.move, []int{}, none, nil, api.ErrArg)
	}
}

// P12.1, R2: Next of what is no sample, ahead of ErrFull.
func TestNextBeyond(t *testing.T) {
	for _, m := range may() {
		for _, x := range beyond() {
			checkNext(t, m, x, api.Move{}, 0, api.ErrRange)
		}
	}
	checkNext(t, api.Move{N: billion}, million+1, api.Move{}, 0, api.ErrRange)
	checkNext(t, api.Move{N: billion}, million, api.Move{}, 0, api.ErrFull)
}

// P12.1: Next of a move that has as many samples as there may be, and of one that lacks one.
func TestNextFull(t *testing.T) {
	for _, x := range edges() {
		for _, last := range edges() {
			for _, sum := range []int{0, 1, most(billion - 1), most(billion)} {
				checkNext(t, api.Move{N: billion, Last: last, Sum: sum}, x, api.Move{}, 0, api.ErrFull)
			}
			for _, sum := range []int{0, 1, most(billion - 1)} {
				step := far(last, x)
				checkNext(t, api.Move{N: billion - 1, Last: last, Sum: sum}, x, api.Move{N: billion, Last: x, Sum: sum + step}, step, api.OK)
			}
		}
	}
}

// P12.1: Next of the very first sample has no step.
func TestNextFirst(t *testing.T) {
	for _, x := range edges() {
		checkNext(t, api.Move{}, x, api.Move{N: 1, Last: x}, 0, api.OK)
	}
}

// P12.1: Next of samples that are less than the one ahead, the same, and more, from each move that takes one more.
func TestNext(t *testing.T) {
	for _, m := range may() {
		if m.N == 0 || m.N == billion {
			continue
		}
		for _, x := range edges() {
			step := far(m.Last, x)
			then := api.Move{N: m.N + 1, Last: x, Sum: m.Sum + step}
			checkNext(t, m, x, then, step, api.OK)
			checkRight(t, then, true)
		}
	}
}

// P12.1: what is reckoned by hand, the greatest step among it, and a step from a sample of 0.
func TestNextByHand(t *testing.T) {
	checkNext(t, api.Move{N: 1, Last: 1}, 4, api.Move{N: 2, Last: 4, Sum: 3}, 3, api.OK)
	checkNext(t, api.Move{N: 2, Last: 4, Sum: 3}, -2, api.Move{N: 3, Last: -2, Sum: 9}, 6, api.OK)
	checkNext(t, api.Move{N: 3, Last: -2, Sum: 9}, -2, api.Move{N: 4, Last: -2, Sum: 9}, 0, api.OK)
	checkNext(t, api.Move{N: 3, Last: -2, Sum: 9}, -1, api.Move{N: 4, Last: -1, Sum: 10}, 1, api.OK)
	checkNext(t, api.Move{N: 3, Last: -2, Sum: 9}, -3, api.Move{N: 4, Last: -3, Sum: 10}, 1, api.OK)
	checkNext(t, api.Move{N: 1}, 5, api.Move{N: 2, Last: 5, Sum: 5}, 5, api.OK)
	checkNext(t, api.Move{N: 1}, 0, api.Move{N: 2}, 0, api.OK)
	checkNext(t, api.Move{N: 1, Last: 5}, 0, api.Move{N: 2, Sum: 5}, 5, api.OK)
	checkNext(t, api.Move{N: 1, Last: -million}, million, api.Move{N: 2, Last: million, Sum: 2000000}, 2000000, api.OK)
	checkNext(t, api.Move{N: 1, Last: million}, -million, api.Move{N: 2, Last: -million, Sum: 2000000}, 2000000, api.OK)
	checkNext(t, api.Move{N: billion - 1, Last: million, Sum: 1999999996000000}, -million, api.Move{N: billion, Last: -million, Sum: 1999999998000000}, 2000000, api.OK)
}

// P12.2: the chapter's example.
func TestExample(t *testing.T) {
	checkRun(t, api.Move{}, []int{1, 4, -2}, api.Move{N: 3, Last: -2, Sum: 9}, []int{3, 6}, api.OK)
}

// P12.2: what is reckoned by hand, onto a move without samples, and onto one with some.
func TestRunByHand(t *testing.T) {
	none := api.Move{}
	some := api.Move{N: 2, Last: 4, Sum: 3}
	checkRun(t, none, []int{7}, api.Move{N: 1, Last: 7}, nil, api.OK)
	checkRun(t, none, []int{0}, api.Move{N: 1}, nil, api.OK)
	checkRun(t, none, []int{7, 7}, api.Move{N: 2, Last: 7}, []int{0}, api.OK)
	checkRun(t, none, []int{7, 0, -7}, api.Move{N: 3, Last: -7, Sum: 14}, []int{7, 7}, api.OK)
	checkRun(t, api.Move{N: 1}, []int{0}, api.Move{N: 2}, []int{0}, api.OK)
	checkRun(t, api.Move{N: 1}, []int{7, 5}, api.Move{N: 3, Last: 5, Sum: 9}, []int{7, 2}, api.OK)
	checkRun(t, some, []int{-2}, api.Move{N: 3, Last: -2, Sum: 9}, []int{6}, api.OK)
	checkRun(t, some, []int{4}, api.Move{N: 3, Last: 4, Sum: 3}, []int{0}, api.OK)
	checkRun(t, some, []int{5, 1, 1, 10}, api.Move{N: 6, Last: 10, Sum: 17}, []int{1, 4, 0, 9}, api.OK)
	checkRun(t, none, []int{million, -million, million}, api.Move{N: 3, Last: million, Sum: 4000000}, []int{2000000, 2000000}, api.OK)
}

// P12.2, R3: Run of no samples changes nothing, also of a move that takes no more; a nil list counts as an empty one.
func TestRunOfNone(t *testing.T) {
	for _, m := range may() {
		checkRun(t, m, nil, m, nil, api.OK)
		checkRun(t, m, []int{}, m, nil, api.OK)
	}
}

// P12.2: Run of one sample is Next, whatever the sample and the move.
func TestRunOfOne(t *testing.T) {
	for _, m := range may() {
		for _, x := range slices.Concat(edges(), beyond()) {
			checkRuns(t, m, []int{x})
			checkAdded(t, m, []int{x})
		}
	}
}

// added is what Next makes of the samples, one by one, up to the first that is refused.
func added(m api.Move, l []int) (api.Move, []int, api.Errno) {
	var steps []int
	for _, x := range l {
		then, step, why := Next(m, x)
		if why != api.OK {
			return api.Move{}, nil, why
		}
		if m.N > 0 {
			steps = append(steps, step)
		}
		m = then
	}
	return m, steps, api.OK
}

// checkAdded holds Run's answer against that of Next, sample by sample.
func checkAdded(t *testing.T, m api.Move, l []int) {
	t.Helper()
	want, steps, why := added(m, l)
	checkRun(t, m, l, want, steps, why)
}

// drawnSample is a sample that is drawn, often one that is near where samples end.
func drawnSample(draw *rand.Rand) int {
	switch draw.Intn(3) {
	case 0:
		return edges()[draw.Intn(len(edges()))]
	case 1:
		return draw.Intn(21) - 10
	}
	return draw.Intn(farthest+1) - million
}

// drawn are so many samples that are drawn.
func drawn(draw *rand.Rand, n int) []int {
	l := make([]int, n)
	for i := range l {
		l[i] = drawnSample(draw)
	}
	return l
}

// drawnMove is a move that may be, with room for some samples.
func drawnMove(draw *rand.Rand) api.Move {
	n := []int{0, 0, 1, 2, 1 + draw.Intn(100), 1 + draw.Intn(billion-1000)}[draw.Intn(6)]
	if n == 0 {
		return api.Move{}
	}
	return api.Move{N: n, Last: drawnSample(draw), Sum: draw.Intn(most(n) + 1)}
}

// lists are all lists of the samples, of so many at most.
func lists(samples []int, longest int) [][]int {
	all := [][]int{nil}
	for from := 0; len(all[from]) < longest; from++ {
		for _, x := range samples {
			all = append(all, append(slices.Clone(all[from]), x))
		}
	}
	return all
}

// P12.2: Run of all small lists, and of drawn ones, onto moves without samples and with some, against Next and a reckoning.
func TestRun(t *testing.T) {
	for _, l := range lists([]int{-million, -1, 0, 3, million}, 5) {
		for _, m := range []api.Move{{}, {N: 1}, {N: 1, Last: 3}, {N: 4, Last: -million, Sum: 17}, {N: billion - 5, Last: million, Sum: most(billion - 5)}} {
			checkRuns(t, m, l)
			checkAdded(t, m, l)
		}
	}
	draw := rand.New(rand.NewSource(122))
	for range 5000 {
		m, l := drawnMove(draw), drawn(draw, draw.Intn(40))
		checkRuns(t, m, l)
		checkAdded(t, m, l)
	}
	l := drawn(draw, 100000)
	checkRuns(t, api.Move{}, l)
	checkAdded(t, api.Move{}, l)
	checkRuns(t, api.Move{N: billion - 100000, Last: 5, Sum: 8}, l)
}

// P12.2, R2: Run of samples of which one is refused, at each place, and of which several are, ahead of ErrFull.
func TestRunBeyond(t *testing.T) {
	draw := rand.New(rand.NewSource(1221))
	for _, x := range beyond() {
		for _, n := range []int{1, 2, 3, 8, 20} {
			for _, m := range []api.Move{{}, {N: 1, Last: 4}, drawnMove(draw), {N: billion - n}, {N: billion - n + 1}, {N: billion, Last: million, Sum: most(billion)}} {
				for place := range n {
					l := drawn(draw, n)
					l[place] = x
					checkRun(t, m, l, api.Move{}, nil, api.ErrRange)
				}
				checkRun(t, m, slices.Repeat([]int{x}, n), api.Move{}, nil, api.ErrRange)
			}
		}
	}
}

// P12.2: Run of as many samples as there may be, together with those that came, and of one more.
func TestRunFull(t *testing.T) {
	draw := rand.New(rand.NewSource(1222))
	for _, n := range []int{1, 2, 3, 10, 1000} {
		for range 20 {
			l, last := drawn(draw, n), drawnSample(draw)
			top := most(billion - n)
			for _, m := range []api.Move{{N: billion - n, Last: last}, {N: billion - n, Last: last, Sum: top}, {N: billion - n - 1, Last: last}} {
				then, steps, why := reckoned(m, l)
				if why != api.OK {
					t.Fatalf("%d samples are not taken onto %v", n, m)
				}
				checkRun(t, m, l, then, steps, api.OK)
				checkRight(t, then, true)
			}
			for _, m := range []api.Move{{N: billion - n + 1, Last: last}, {N: billion - n + 1, Last: last, Sum: top}, {N: billion, Last: last, Sum: top}} {
				checkRun(t, m, l, api.Move{}, nil, api.ErrFull)
			}
		}
	}
	checkRun(t, api.Move{N: billion - 2, Last: 1, Sum: 5}, []int{2, 4}, api.Move{N: billion, Last: 4, Sum: 8}, []int{1, 2}, api.OK)
	checkRun(t, api.Move{N: billion - 2, Last: 1, Sum: 5}, []int{2, 4, 4}, api.Move{}, nil, api.ErrFull)
}

// P12.2: samples in two parts, cut at every place, are all of them at once.
func TestTwoParts(t *testing.T) {
	draw := rand.New(rand.NewSource(1223))
	for range 1000 {
		m, l := drawnMove(draw), drawn(draw, draw.Intn(30))
		want, steps, _ := Run(m, l)
		for place := range len(l) + 1 {
			middle, first, _ := Run(m, l[:place])
			then, second, why := Run(middle, l[place:])
			if then != want || !slices.Equal(slices.Concat(first, second), steps) || why != api.OK {
				t.Fatalf("Run(%v, %v), cut at %d, tells %v, %v, %v, %d", m, l, place, then, first, second, why)
			}
		}
	}
}

// P12.2: how many steps there are: one less than samples, and one for each if there was one ahead.
func TestHowManySteps(t *testing.T) {
	for n := 1; n < 50; n++ {
		l := make([]int, n)
		if _, steps, _ := Run(api.Move{}, l); len(steps) != n-1 {
			t.Errorf("%d samples have %d steps", n, len(steps))
		}
		if _, steps, _ := Run(api.Move{N: 1}, l); len(steps) != n {
			t.Errorf("%d samples behind one have %d steps", n, len(steps))
		}
	}
}

// P12.1, P12.2: what is told of moves that may be may be, and its sum grew by the steps.
func TestAnswersMayBe(t *testing.T) {
	draw := rand.New(rand.NewSource(1224))
	for range 3000 {
		m, l := drawnMove(draw), drawn(draw, draw.Intn(30))
		if draw.Intn(4) == 0 {
			l = append(l, beyond()[draw.Intn(len(beyond()))])
		}
		then, steps, why := Run(m, l)
		checkRight(t, then, true)
		if why == api.OK && then.Sum-m.Sum != sum(steps) {
			t.Fatalf("Run(%v, %v) leads to %v, by steps of %v", m, l, then, steps)
		}
		if slices.ContainsFunc(steps, func(x int) bool { return x < 0 || farthest < x }) {
			t.Fatalf("Run(%v, %v) tells steps of %v", m, l, steps)
		}
		next, step, why := Next(m, drawnSample(draw))
		checkRight(t, next, true)
		if why == api.OK && next.Sum-m.Sum != step {
			t.Fatalf("Next of %v leads to %v, by a step of %d", m, next, step)
		}
	}
}

// rises is whether no sample is less than the one ahead, falls whether none is more.
func rises(l []int) bool { return slices.IsSorted(l) }

func falls(l []int) bool { return slices.IsSorted(backward(l)) }

// backward are the samples in the other order.
func backward(l []int) []int {
	other := slices.Clone(l)
	slices.Reverse(other)
	return other
}

// checkSum holds the sum of some samples against how far the first and the last are apart, and against that of the samples in the other order.
func checkSum(t *testing.T, l []int) {
	t.Helper()
	m, steps, _ := Run(api.Move{}, l)
	ends := far(l[0], l[len(l)-1])
	if m.Sum < ends || (m.Sum == ends) != (rises(l) || falls(l)) {
		t.Errorf("the sum of %v is %d; the first and the last are %d apart", l, m.Sum, ends)
	}
	checkRun(t, api.Move{}, backward(l), api.Move{N: len(l), Last: l[0], Sum: m.Sum}, backward(steps), api.OK)
}

// P12.3: the sum is not less than how far the first and the last sample are apart, and is that just if no step goes back; it is the same in the other order.
func TestSum(t *testing.T) {
	for _, l := range lists([]int{-2, 0, 1, 5}, 6)[1:] {
		checkSum(t, l)
	}
	for _, l := range lists([]int{-million, 1 - million, million}, 5)[1:] {
		checkSum(t, l)
	}
	draw := rand.New(rand.NewSource(123))
	for n := 1; n <= 60; n++ {
		for range 20 {
			l := drawn(draw, n)
			checkSum(t, l)
			// All rise, all fall, and all but one do.
			slices.Sort(l)
			checkSum(t, l)
			checkSum(t, backward(l))
			checkSum(t, slices.Compact(slices.Clone(l)))
			l[draw.Intn(n)] = drawnSample(draw)
			checkSum(t, l)
			checkSum(t, backward(l))
		}
	}
}

// P12.3: what is reckoned by hand.
func TestSumByHand(t *testing.T) {
	for _, x := range []struct {
		samples []int
		sum     int
	}{
		{[]int{5}, 0}, {[]int{5, 5, 5}, 0}, {[]int{-3, 0, 4, 9}, 12}, {[]int{9, 4, 0, -3}, 12}, {[]int{9, 0, 4, -3}, 20}, {[]int{-3, 4, 0, 9}, 20},
		{[]int{1, 4, -2}, 9}, {[]int{-2, 4, 1}, 9}, {[]int{0, 7, 0}, 14}, {[]int{-million, 0, million}, 2000000}, {[]int{million, 0, -million}, 2000000},
		{[]int{-million, million, -million}, 4000000}, {[]int{0, 0, 1, 1, 2, 2}, 2},
	} {
		if m, _, why := Run(api.Move{}, x.samples); m.Sum != x.sum || why != api.OK {
			t.Errorf("the sum of %v is %d, %d; want %d", x.samples, m.Sum, why, x.sum)
		}
		checkSum(t, x.samples)
	}
}

// R4: no call changes the list or the move that it was handed, nor what stands in the room behind.
func TestWhatIsHandedInStays(t *testing.T) {
	draw := rand.New(rand.NewSource(4))
	for n := range 40 {
		for _, room := range []int{0, 1, 8, 100} {
			all := slices.Concat(drawn(draw, n), slices.Repeat([]int{least + 77}, room))
			if n%5 == 4 {
				all[draw.Intn(n)] = greatest
			}
			l, whole := all[:n], slices.Clone(all)
			for _, m := range []api.Move{{}, drawnMove(draw), {N: billion, Last: 5, Sum: 7}, {N: -1}} {
				handed := m
				Right(handed)
				Next(handed, 3)
				if Run(handed, l); handed != m || !slices.Equal(all, whole) {
					t.Fatalf("of %v and %v there is %v and %v", m, whole, handed, all)
				}
				if mayBe(m) {
					checkRuns(t, m, l)
				}
			}
		}
	}
}

// spoil writes over a list, and over the room behind it.
func spoil(l []int) {
	l = l[:cap(l)]
	for i := range l {
		l[i] = greatest - 7
	}
}

// R1, R4: steps that were told share nothing with the list that was handed in, nor with those of another call.
func TestAnswersAreTheCallersOwn(t *testing.T) {
	draw := rand.New(rand.NewSource(5))
	for n := 1; n < 30; n++ {
		for _, m := range []api.Move{{}, drawnMove(draw), {N: 1, Last: 3}} {
			l := drawn(draw, n)
			_, want, _ := reckoned(m, l)
			kept := slices.Clone(l)
			_, first, _ := Run(m, l)
			_, second, _ := Run(m, l)
			if spoil(first); !slices.Equal(l, kept) || !slices.Equal(second, want) {
				t.Fatalf("steps written over change %v to %v, or %v to %v", kept, l, want, second)
			}
			if spoil(l); !slices.Equal(second, want) {
				t.Fatalf("a list written over changes the steps %v to %v", want, second)
			}
		}
	}
}

// Neighbours may be left at each of them, with nothing told behind that one.
func TestNeighboursAreLeft(t *testing.T) {
	for _, m := range []api.Move{{}, {N: 1, Last: 9}} {
		for stop := 1; stop <= 4; stop++ {
			seen := 0
			for range neighbours(m, []int{1, 4, -2, 7, 7}) {
				if seen++; seen == stop {
					break
				}
			}
			if seen != stop {
				t.Errorf("%d neighbours of %v were seen; want %d", seen, m, stop)
			}
		}
	}
}

// questions are calls with their right answers, refused ones among them.
func questions() []func() bool {
	var l []func() bool
	draw := rand.New(rand.NewSource(1))
	for i := range 200 {
		m, samples := drawnMove(draw), drawn(draw, i%50)
		if i%5 == 4 {
			samples[draw.Intn(len(samples))] = beyond()[draw.Intn(len(beyond()))]
		}
		if i%7 == 6 {
			m = api.Move{N: billion - draw.Intn(30), Last: 3, Sum: 8}
		}
		want, steps, why := reckoned(m, samples)
		last := drawnSample(draw)
		next, step, err := reckoned(m, []int{last})
		l = append(l, func() bool {
			then, told, got := Run(m, samples)
			return then == want && slices.Equal(told, steps) && got == why && Right(then) && Right(m)
		}, func() bool {
			then, told, got := Next(m, last)
			return then == next && told == sum(step) && got == err
		}, func() bool {
			then, told, got := Next(m, million+1+i)
			return then == api.Move{} && told == 0 && got == api.ErrRange
		})
	}
	for _, x := range mayNot()[:100] {
		l = append(l, func() bool {
			then, step, why := Next(x.move, 5)
			after, steps, told := Run(x.move, []int{5, 7})
			return !Right(x.move) && then == api.Move{} && step == 0 && why == api.ErrArg && after == api.Move{} && len(steps) == 0 && told == api.ErrArg
		})
	}
	return l
}

// R1: calls in any order, many times over, answer the same.
func TestCallsInAnyOrder(t *testing.T) {
	draw := rand.New(rand.NewSource(2))
	l := questions()
	for range 20 {
		for _, i := range draw.Perm(len(l)) {
			if !l[i]() {
				t.Fatalf("question %d has another answer", i)
			}
		}
	}
}

// R1: calls of several goroutines at once answer the same, of the same lists.
func TestCallsAtOnce(t *testing.T) {
	l := questions()
	var begun, ended sync.WaitGroup
	begun.Add(1)
	for g := range 16 {
		ended.Go(func() {
			begun.Wait()
			draw := rand.New(rand.NewSource(int64(g)))
			for range 5 {
				for _, i := range draw.Perm(len(l)) {
					if !l[i]() {
						t.Errorf("question %d has another answer in goroutine %d", i, g)
						return
					}
				}
			}
		})
	}
	begun.Done()
	ended.Wait()
}
