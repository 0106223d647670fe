package limit

import (
	"math"
	"math/big"
	"math/rand"
	"testing"

	"datum/api"
)

const (
	least    = math.MinInt
	highest  = math.MaxInt
	farthest = 100000000000000
	fullWord = math.MaxUint64
)

// The verdicts, by their numbers.
const (
	in    = 0
	out   = 1
	guard = 2
)

// bigOf is the wide number as a big integer.
func bigOf(x api.W) *big.Int {
	all := new(big.Int).SetUint64(x.Hi)
	return all.Add(all.Lsh(all, 64), new(big.Int).SetUint64(x.Lo))
}

// wideOf is the big integer, from 0 to 2^128 - 1, as a wide number.
func wideOf(x *big.Int) api.W {
	low := new(big.Int).And(x, new(big.Int).SetUint64(fullWord))
	return api.W{Hi: new(big.Int).Rsh(x, 64).Uint64(), Lo: low.Uint64()}
}

// product is what the numbers are, multiplied.
func product(l ...int) *big.Int {
	all := big.NewInt(1)
	for _, x := range l {
		all.Mul(all, big.NewInt(int64(x)))
	}
	return all
}

// isFrom is whether x is from low to 10^14.
func isFrom(low int64, x int) bool {
	held := big.NewInt(int64(x))
	return big.NewInt(low).Cmp(held) <= 0 && held.Cmp(big.NewInt(farthest)) <= 0
}

// mayBe is whether the point may be, as the chapter's words say it.
func mayBe(p api.Point) bool {
	end := new(big.Int).Lsh(big.NewInt(1), 102)
	return isFrom(1, p.Den) && isFrom(-farthest, p.Center) && isFrom(-farthest, p.Dev) && bigOf(p.Var).Cmp(end) < 0
}

// scales are scales, the least and the greatest among them.
func scales() []int { return []int{1, 2, 3, 7, 10, 999, 1000} }

// wrongScales are numbers that are no scales.
func wrongScales() []int {
	return []int{-1, 0, 1001, -1000, 2000, 1 << 32, 1<<32 + 1, -1 << 32, least, least + 1, highest - 1, highest}
}

// rightVars are variances that a point may have, the least and the greatest, and some of which the root is a whole number.
func rightVars() []api.W {
	return []api.W{{}, {Lo: 1}, {Lo: 2}, {Lo: 4}, {Lo: fullWord}, {Hi: 1}, {Hi: 1<<38 - 1}, {Hi: 1<<38 - 1, Lo: fullWord}}
}

// wrongVars are wide numbers that are no point's variance.
func wrongVars() []api.W {
	return []api.W{{Hi: 1 << 38}, {Hi: 1 << 38, Lo: 1}, {Hi: 1 << 38, Lo: fullWord}, {Hi: 1 << 39}, {Hi: 1<<60 - 1}, {Hi: 1 << 60}, {Hi: 1 << 63}, {Hi: fullWord}, {Hi: fullWord, Lo: fullWord}}
}

// rightPoints are points with each field at both its ends, and between, in each combination.
func rightPoints() []api.Point {
	var l []api.Point
	ends := []int{-farthest, -farthest + 1, -5, 0, 1, farthest - 1, farthest}
	for _, den := range []int{1, 2, 3, 999, farthest - 1, farthest} {
		for _, center := range ends {
			for _, dev := range ends {
				for _, v := range rightVars() {
					l = append(l, api.Point{Den: den, Center: center, Dev: dev, Var: v})
				}
			}
		}
	}
	return l
}

// somePoints are a few points that may be, some of them with fields at their ends.
func somePoints() []api.Point {
	top := api.W{Hi: 1<<38 - 1, Lo: fullWord}
	return []api.Point{
		{Den: 1},
		{Den: 3, Center: 5, Var: api.W{Lo: 2}},
		{Den: 1, Center: 5, Dev: 7, Var: api.W{Lo: 4}},
		{Den: farthest, Center: farthest, Dev: farthest, Var: top},
		{Den: 1, Center: -farthest, Dev: -farthest, Var: top},
	}
}

// wrongPoints are points that may not be, each with one field beyond one of its ends.
func wrongPoints() []api.Point {
	l := []api.Point{{}}
	for _, p := range somePoints() {
		for _, den := range []int{0, -1, -farthest, farthest + 1, least, highest} {
			q := p
			q.Den = den
			l = append(l, q)
		}
		for _, x := range []int{-farthest - 1, farthest + 1, least, least + 1, highest - 1, highest} {
			q, r := p, p
			q.Center, r.Dev = x, x
			l = append(l, q, r)
		}
		for _, v := range wrongVars() {
			q := p
			q.Var = v
			l = append(l, q)
		}
	}
	return l
}

// checkRight holds Right's answer against what is wanted, and the chapter's words against both.
func checkRight(t *testing.T, p api.Point, want bool) {
	t.Helper()
	if got := Right(p); got != want || mayBe(p) != want {
		t.Errorf("Right(%v) = %t; want %t, by the chapter's words %t", p, got, want, mayBe(p))
	}
}

// reckonedVerdict is what Verdict is to tell, as the chapter's words say it.
func reckonedVerdict(l api.Lines) (int, api.Errno) {
	low, high, value := l.Low, l.High, l.Value
	may := low.Lo <= low.Hi && l.Mid.Lo <= l.Mid.Hi && high.Lo <= high.Hi && value.Lo <= value.Hi
	above, below := value.Lo > high.Hi, value.Hi < low.Lo
	between := value.Hi <= high.Lo && value.Lo >= low.Hi
	switch {
	case !may:
		return 0, api.ErrArg
	case above || below:
		return out, api.OK
	case between:
		return in, api.OK
	}
	return guard, api.OK
}

// checkVerdict holds Verdict's answer against what is wanted.
func checkVerdict(t *testing.T, l api.Lines, want int, why api.Errno) {
	t.Helper()
	if got, told := Verdict(l); got != want || told != why {
		t.Errorf("Verdict(%v) = %d, %d; want %d, %d", l, got, told, want, why)
	}
}

// checkVerdicts holds Verdict's answer against what is reckoned.
func checkVerdicts(t *testing.T, l api.Lines) {
	t.Helper()
	want, why := reckonedVerdict(l)
	checkVerdict(t, l, want, why)
}

// P17.1: Right is whether the point may be: each field at both its ends, and one beyond them.
func TestRightEnds(t *testing.T) {
	for _, p := range rightPoints() {
		checkRight(t, p, true)
	}
	for _, p := range wrongPoints() {
		checkRight(t, p, false)
	}
}

// P17.1: Den is 1 to 10^14.
func TestRightDen(t *testing.T) {
	for _, p := range somePoints() {
		for _, den := range []int{least, -farthest, -1, 0, 1, 2, farthest - 1, farthest, farthest + 1, highest} {
			p.Den = den
			checkRight(t, p, 1 <= den && den <= farthest)
		}
	}
}

// P17.1: Center and Dev are within 10^14 of 0, whatever they are together.
func TestRightCenterAndDev(t *testing.T) {
	l := []int{least, -farthest - 1, -farthest, -farthest + 1, -1, 0, 1, farthest - 1, farthest, farthest + 1, highest}
	near := func(x int) bool { return -farthest <= x && x <= farthest }
	for _, p := range somePoints() {
		for _, center := range l {
			for _, dev := range l {
				p.Center, p.Dev = center, dev
				checkRight(t, p, near(center) && near(dev))
			}
		}
	}
}

// P17.1: Var is below 2^102: its Hi is below 2^38, whatever its Lo is.
func TestRightVar(t *testing.T) {
	for _, p := range somePoints() {
		for _, low := range []uint64{0, 1, 1 << 38, 1 << 63, fullWord} {
			for _, high := range []uint64{0, 1, 1<<38 - 2, 1<<38 - 1, 1 << 38, 1<<38 + 1, 1<<60 - 1, 1 << 60, 1 << 63, fullWord} {
				p.Var = api.W{Hi: high, Lo: low}
				checkRight(t, p, high < 1<<38)
			}
		}
	}
}

// P17.1: nothing wraps: fields about the ends of int, and such as come back between the ends when they are turned round, are told wrong.
func TestRightAtEndsOfInt(t *testing.T) {
	for _, x := range []int{least, least + 1, least + farthest, highest - farthest, highest - 1, highest, 1 << 62, -1 << 62, 1 << 48, -1 << 48} {
		checkRight(t, api.Point{Den: x}, false)
		checkRight(t, api.Point{Den: x, Center: x, Dev: x}, false)
		checkRight(t, api.Point{Den: 1, Center: x}, false)
		checkRight(t, api.Point{Den: 1, Dev: x}, false)
		checkRight(t, api.Point{Den: 1, Center: x, Dev: -x}, false)
		checkRight(t, api.Point{Den: farthest, Center: x, Dev: -1 - x}, false)
	}
}

// P17.1: drawn points, near all ends, are told as the chapter's words say.
func TestRightDrawn(t *testing.T) {
	draw := rand.New(rand.NewSource(1))
	about := func(l ...int) int { return l[draw.Intn(len(l))] - 1 + draw.Intn(3) }
	for range 50000 {
		p := api.Point{
			Den:    about(1, farthest, 500, 1),
			Center: about(-farthest, 0, 0, farthest),
			Dev:    about(-farthest, 0, 0, farthest),
			Var:    api.W{Hi: uint64(about(1<<38, 1<<37, 1)), Lo: draw.Uint64()},
		}
		checkRight(t, p, mayBe(p))
	}
}

// P17.2: lines of which one span may not be, each of the four in turn, are told as ErrArg, with 0 beside it, also where the value is beyond its lines.
func TestVerdictOfWrongSpans(t *testing.T) {
	wrong := []api.Span{{Lo: 1}, {Lo: 0, Hi: -1}, {Lo: 51, Hi: 50}, {Lo: highest, Hi: least}, {Lo: least + 1, Hi: least}, {Lo: highest, Hi: highest - 1}}
	for _, right := range []api.Lines{
		{},
		{Low: api.Span{Lo: -10, Hi: -9}, Mid: api.Span{Lo: 50, Hi: 51}, High: api.Span{Lo: 110, Hi: 111}, Value: api.Span{Lo: 120, Hi: 121}},
		{Low: api.Span{Lo: -10, Hi: -9}, Mid: api.Span{Lo: 50, Hi: 51}, High: api.Span{Lo: 110, Hi: 111}, Value: api.Span{Lo: 110, Hi: 111}},
		{Low: api.Span{Lo: 3, Hi: 3}, Mid: api.Span{Lo: 5, Hi: 5}, High: api.Span{Lo: 7, Hi: 7}, Value: api.Span{Lo: 1, Hi: 1}},
	} {
		for _, s := range wrong {
			low, mid, high, value := right, right, right, right
			low.Low, mid.Mid, high.High, value.Value = s, s, s, s
			for _, l := range []api.Lines{low, mid, high, value, {Low: s, Mid: s, High: s, Value: s}} {
				checkVerdict(t, l, 0, api.ErrArg)
			}
		}
	}
}

// P17.2: a value above, below, between, on both lines, and one of which it can't be told.
func TestVerdictByHand(t *testing.T) {
	exact := api.Lines{Low: api.Span{Lo: -10, Hi: -10}, Mid: api.Span{Lo: 50, Hi: 50}, High: api.Span{Lo: 110, Hi: 110}}
	rough := api.Lines{Low: api.Span{Lo: -10, Hi: -9}, Mid: api.Span{Lo: 50, Hi: 51}, High: api.Span{Lo: 110, Hi: 111}}
	for _, c := range []struct {
		lines api.Lines
		value api.Span
		want  int
	}{
		{exact, api.Span{Lo: 111, Hi: 111}, out},
		{exact, api.Span{Lo: 110, Hi: 110}, in},
		{exact, api.Span{Lo: 110, Hi: 111}, guard},
		{exact, api.Span{Lo: 109, Hi: 110}, in},
		{exact, api.Span{Lo: 50, Hi: 50}, in},
		{exact, api.Span{Lo: -10, Hi: -9}, in},
		{exact, api.Span{Lo: -10, Hi: -10}, in},
		{exact, api.Span{Lo: -11, Hi: -10}, guard},
		{exact, api.Span{Lo: -11, Hi: -11}, out},
		{exact, api.Span{Lo: -11, Hi: 111}, guard},
		{rough, api.Span{Lo: 112, Hi: 113}, out},
		{rough, api.Span{Lo: 112, Hi: 112}, out},
		{rough, api.Span{Lo: 111, Hi: 112}, guard},
		{rough, api.Span{Lo: 111, Hi: 111}, guard},
		{rough, api.Span{Lo: 110, Hi: 111}, guard},
		{rough, api.Span{Lo: 110, Hi: 110}, in},
		{rough, api.Span{Lo: -9, Hi: 110}, in},
		{rough, api.Span{Lo: -10, Hi: 110}, guard},
		{rough, api.Span{Lo: -9, Hi: 111}, guard},
		{rough, api.Span{Lo: -9, Hi: -9}, in},
		{rough, api.Span{Lo: -10, Hi: -9}, guard},
		{rough, api.Span{Lo: -10, Hi: -10}, guard},
		{rough, api.Span{Lo: -11, Hi: -10}, guard},
		{rough, api.Span{Lo: -11, Hi: -11}, out},
		{rough, api.Span{Lo: -12, Hi: -11}, out},
	} {
		l := c.lines
		l.Value = c.value
		checkVerdict(t, l, c.want, api.OK)
	}
}

// P17.2: what the value is hangs on both lines alone, wherever the middle is, and even where they are the wrong way round.
func TestVerdictOfOtherLines(t *testing.T) {
	for _, mid := range []api.Span{{}, {Lo: least, Hi: least}, {Lo: least, Hi: highest}, {Lo: highest, Hi: highest}} {
		l := api.Lines{Low: api.Span{Lo: 3, Hi: 4}, Mid: mid, High: api.Span{Lo: 8, Hi: 9}}
		for value, want := range map[api.Span]int{{Lo: 2, Hi: 2}: out, {Lo: 3, Hi: 3}: guard, {Lo: 4, Hi: 8}: in, {Lo: 9, Hi: 9}: guard, {Lo: 10, Hi: 10}: out} {
			l.Value = value
			checkVerdict(t, l, want, api.OK)
		}
		turned := api.Lines{Low: api.Span{Lo: 8, Hi: 9}, Mid: mid, High: api.Span{Lo: 3, Hi: 4}}
		for value, want := range map[api.Span]int{{Lo: 2, Hi: 3}: out, {Lo: 6, Hi: 6}: out, {Lo: 3, Hi: 9}: guard, {Lo: 9, Hi: 10}: out} {
			turned.Value = value
			checkVerdict(t, turned, want, api.OK)
		}
	}
}

// P17.2: all small lines, right ones and wrong ones, are judged as the chapter's words say.
func TestVerdictOfSmallLines(t *testing.T) {
	var spans []api.Span
	for lo := -2; lo <= 2; lo++ {
		for hi := max(lo-1, -2); hi <= 2; hi++ {
			spans = append(spans, api.Span{Lo: lo, Hi: hi})
		}
	}
	for _, low := range spans {
		for _, high := range spans {
			for _, value := range spans {
				checkVerdicts(t, api.Lines{Low: low, High: high, Value: value})
				checkVerdicts(t, api.Lines{Low: low, Mid: value, High: high, Value: value})
			}
		}
	}
}

// P17.2: nothing wraps: spans about the ends of int are judged as all others.
func TestVerdictAtEndsOfInt(t *testing.T) {
	var spans []api.Span
	l := []int{least, least + 1, 0, highest - 1, highest}
	for _, lo := range l {
		for _, hi := range l {
			spans = append(spans, api.Span{Lo: lo, Hi: hi})
		}
	}
	for _, low := range spans {
		for _, high := range spans {
			for _, value := range spans {
				checkVerdicts(t, api.Lines{Low: low, High: high, Value: value})
			}
		}
	}
}
