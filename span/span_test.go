package span

import (
	"math"
	"math/big"
	"testing"

	"datum/api"
)

const (
	least    = math.MinInt
	greatest = math.MaxInt
	// rootOfGreatest squared is the greatest square that is an int.
	rootOfGreatest = 3037000499
)

// call is a function of two spans, with its name.
type call struct {
	name string
	do   func(a, b api.Span) (api.Span, api.Errno)
}

// calls are all functions of two spans.
func calls() []call {
	return []call{{"Join", Join}, {"Add", Add}, {"Sub", Sub}, {"Mul", Mul}, {"Div", Div}}
}

// edges are the ints at the ends, at 0, beside them, and some whose products, sums and quotients are just an int, or just none.
func edges() []int {
	return []int{least, least + 1, -1 << 62, -1 << 32, -3, -1, 0, 1, 2, 1 << 31, 1 << 62, greatest - 1, greatest}
}

// small are numbers near 0, of which all spans can be gone through.
func small() []int { return []int{-4, -3, -2, -1, 0, 1, 2, 3, 4} }

// spans are all that may be between two of the numbers.
func spans(l []int) []api.Span {
	var all []api.Span
	for _, lo := range l {
		for _, hi := range l {
			if lo <= hi {
				all = append(all, api.Span{Lo: lo, Hi: hi})
			}
		}
	}
	return all
}

// noSpans are some that may not be.
func noSpans() []api.Span {
	return []api.Span{{Lo: 1, Hi: 0}, {Lo: 0, Hi: -1}, {Lo: 1, Hi: -1}, {Lo: 5, Hi: 4}, {Lo: -4, Hi: -5}, {Lo: greatest, Hi: least}, {Lo: least + 1, Hi: least}, {Lo: greatest, Hi: greatest - 1}, {Lo: greatest, Hi: 0}, {Lo: 0, Hi: least}}
}

func number(x int) *big.Int { return big.NewInt(int64(x)) }

func fraction(x *big.Int) *big.Rat { return new(big.Rat).SetInt(x) }

// exact is what the function makes of two numbers, as nothing is lost, or nil where there is nothing to divide by.
func exact(name string, x, y int) *big.Rat {
	p, q := number(x), number(y)
	switch name {
	case "Add":
		return fraction(new(big.Int).Add(p, q))
	case "Sub":
		return fraction(new(big.Int).Sub(p, q))
	case "Mul":
		return fraction(new(big.Int).Mul(p, q))
	}
	if y == 0 {
		return nil
	}
	return new(big.Rat).SetFrac(p, q)
}

// down is the greatest whole number that is not more: of a divisor above 0, as Rat's always is, big's Div rounds down.
func down(x *big.Rat) *big.Int { return new(big.Int).Div(x.Num(), x.Denom()) }

// up is the least whole number that is not less.
func up(x *big.Rat) *big.Int {
	below := down(new(big.Rat).Neg(x))
	return below.Neg(below)
}

// numbers are the numbers of the list that the span has, with both of its ends.
func numbers(a api.Span, l []int) []int {
	has := []int{a.Lo, a.Hi}
	for _, x := range l {
		if a.Lo < x && x < a.Hi {
			has = append(has, x)
		}
	}
	return has
}

// extremes are the least and the greatest of what the function makes of numbers of both spans.
func extremes(name string, xs, ys []int) (*big.Rat, *big.Rat) {
	var low, high *big.Rat
	for _, x := range xs {
		for _, y := range ys {
			v := exact(name, x, y)
			if low == nil || v.Cmp(low) < 0 {
				low = v
			}
			if high == nil || v.Cmp(high) > 0 {
				high = v
			}
		}
	}
	return low, high
}

// wanted is what the function should tell, if the numbers of the list, and the ends, are all that matter: these are all numbers of small spans; of others they are the ends, and those at 0.
func wanted(name string, a, b api.Span, l []int) (api.Span, api.Errno) {
	ys := numbers(b, l)
	for _, y := range ys {
		if name == "Div" && y == 0 {
			return api.Span{}, api.ErrZero
		}
	}
	lowest, highest := extremes(name, numbers(a, l), ys)
	low, high := down(lowest), up(highest)
	if !low.IsInt64() || !high.IsInt64() {
		return api.Span{}, api.ErrOver
	}
	return api.Span{Lo: int(low.Int64()), Hi: int(high.Int64())}, api.OK
}

// check holds one answer against what is wanted.
func check(t *testing.T, c call, a, b, want api.Span, told api.Errno) {
	t.Helper()
	if got, why := c.do(a, b); got != want || why != told {
		t.Errorf("%s(%v, %v) = %v, %d; want %v, %d", c.name, a, b, got, why, want, told)
	}
}

// P5.1
func TestRight(t *testing.T) {
	for _, c := range []struct {
		lo, hi int
		want   bool
	}{
		{0, 0, true}, {3, 3, true}, {-3, -3, true}, {-2, 5, true}, {5, -2, false}, {1, 0, false}, {0, -1, false},
		{least, least, true}, {greatest, greatest, true}, {least, greatest, true}, {greatest, least, false},
		{least, least + 1, true}, {least + 1, least, false}, {greatest - 1, greatest, true}, {greatest, greatest - 1, false},
	} {
		if got := Right(api.Span{Lo: c.lo, Hi: c.hi}); got != c.want {
			t.Errorf("Right(%d to %d) = %v", c.lo, c.hi, got)
		}
	}
}

// P5.1
func TestHas(t *testing.T) {
	for _, a := range spans(edges()) {
		for _, x := range edges() {
			want := x == a.Lo || x == a.Hi || a.Lo < x && x < a.Hi
			if got := Has(a, x); got != want {
				t.Errorf("Has(%v, %d) = %v", a, x, got)
			}
		}
	}
	one := api.Span{Lo: 7, Hi: 7}
	if !Has(one, 7) || Has(one, 6) || Has(one, 8) {
		t.Errorf("a span of one int has it, and none beside it")
	}
}

// P5.1: a span that may not be has nothing, not even its ends.
func TestNoSpanHasNothing(t *testing.T) {
	for _, a := range noSpans() {
		if Right(a) {
			t.Errorf("Right(%v)", a)
		}
		for _, x := range append(edges(), a.Lo, a.Hi) {
			if Has(a, x) {
				t.Errorf("Has(%v, %d)", a, x)
			}
		}
	}
}

// P5.1
func TestJoin(t *testing.T) {
	join := call{"Join", Join}
	for _, c := range []struct{ a, b, want api.Span }{
		{api.Span{Lo: 1, Hi: 3}, api.Span{Lo: 2, Hi: 5}, api.Span{Lo: 1, Hi: 5}},
		{api.Span{Lo: 1, Hi: 2}, api.Span{Lo: 8, Hi: 9}, api.Span{Lo: 1, Hi: 9}},
		{api.Span{Lo: -5, Hi: 5}, api.Span{Lo: -1, Hi: 1}, api.Span{Lo: -5, Hi: 5}},
		{api.Span{Lo: -5, Hi: -4}, api.Span{Lo: -5, Hi: -4}, api.Span{Lo: -5, Hi: -4}},
		{api.Span{Lo: 7, Hi: 7}, api.Span{Lo: 6, Hi: 6}, api.Span{Lo: 6, Hi: 7}},
		{api.Span{Lo: least, Hi: least}, api.Span{Lo: greatest, Hi: greatest}, api.Span{Lo: least, Hi: greatest}},
		{api.Span{Lo: least, Hi: 0}, api.Span{Lo: 0, Hi: greatest}, api.Span{Lo: least, Hi: greatest}},
		{api.Span{}, api.Span{Lo: greatest - 1, Hi: greatest}, api.Span{Hi: greatest}},
	} {
		check(t, join, c.a, c.b, c.want, api.OK)
		check(t, join, c.b, c.a, c.want, api.OK)
	}
}

// P5.1: what is joined has all of both, and its ends are theirs.
func TestJoinHasBoth(t *testing.T) {
	for _, a := range spans(edges()) {
		for _, b := range spans(edges()) {
			got, why := Join(a, b)
			if why != api.OK || got.Lo > a.Lo || got.Lo > b.Lo || got.Hi < a.Hi || got.Hi < b.Hi ||
				got.Lo != a.Lo && got.Lo != b.Lo || got.Hi != a.Hi && got.Hi != b.Hi {
				t.Errorf("Join(%v, %v) = %v, %d", a, b, got, why)
			}
		}
	}
}

// P5.2 and P5.3: small spans, of which each number is gone through.
func TestAllNumbersOfSmallSpans(t *testing.T) {
	for _, c := range calls()[1:] {
		for _, a := range spans(small()) {
			for _, b := range spans(small()) {
				want, told := wanted(c.name, a, b, small())
				check(t, c, a, b, want, told)
			}
		}
	}
}

// P5.2 and P5.3, P2: spans whose ends are at the ends of all ints, or whose results are.
func TestSpansAtTheEdges(t *testing.T) {
	for _, c := range calls()[1:] {
		told := map[api.Errno]int{}
		for _, a := range spans(edges()) {
			for _, b := range spans(edges()) {
				want, why := wanted(c.name, a, b, []int{-1, 0, 1})
				check(t, c, a, b, want, why)
				told[why]++
			}
		}
		if told[api.OK] < 100 || told[api.ErrOver] < 10 {
			t.Errorf("%s: %d results that are ints, and %d that are none, were looked at", c.name, told[api.OK], told[api.ErrOver])
		}
	}
}

// P5.2: which end is no int makes no difference, and an end that is just an int is told.
func TestJustAnInt(t *testing.T) {
	for _, c := range []struct {
		call call
		a, b api.Span
		want api.Span
		why  api.Errno
	}{
		{call{"Add", Add}, api.Span{Lo: -2, Hi: 3}, api.Span{Lo: 10, Hi: 20}, api.Span{Lo: 8, Hi: 23}, api.OK},
		{call{"Add", Add}, api.Span{Lo: least + 1, Hi: greatest - 1}, api.Span{Lo: -1, Hi: 1}, api.Span{Lo: least, Hi: greatest}, api.OK},
		{call{"Add", Add}, api.Span{Lo: least + 1, Hi: greatest - 1}, api.Span{Lo: -2, Hi: 1}, api.Span{}, api.ErrOver},
		{call{"Add", Add}, api.Span{Lo: least + 1, Hi: greatest - 1}, api.Span{Lo: -1, Hi: 2}, api.Span{}, api.ErrOver},
		{call{"Add", Add}, api.Span{Lo: 0, Hi: greatest}, api.Span{Lo: 1, Hi: 1}, api.Span{}, api.ErrOver},
		{call{"Add", Add}, api.Span{Lo: least, Hi: 0}, api.Span{Lo: -1, Hi: -1}, api.Span{}, api.ErrOver},
		{call{"Add", Add}, api.Span{Lo: least, Hi: least}, api.Span{Lo: greatest, Hi: greatest}, api.Span{Lo: -1, Hi: -1}, api.OK},
		{call{"Sub", Sub}, api.Span{Lo: -2, Hi: 3}, api.Span{Lo: 10, Hi: 20}, api.Span{Lo: -22, Hi: -7}, api.OK},
		{call{"Sub", Sub}, api.Span{Lo: least + 1, Hi: greatest - 1}, api.Span{Lo: -1, Hi: 1}, api.Span{Lo: least, Hi: greatest}, api.OK},
		{call{"Sub", Sub}, api.Span{Lo: least + 1, Hi: greatest - 1}, api.Span{Lo: -2, Hi: 1}, api.Span{}, api.ErrOver},
		{call{"Sub", Sub}, api.Span{Lo: least + 1, Hi: greatest - 1}, api.Span{Lo: -1, Hi: 2}, api.Span{}, api.ErrOver},
		{call{"Sub", Sub}, api.Span{Lo: -1, Hi: -1}, api.Span{Lo: least, Hi: greatest}, api.Span{Lo: least, Hi: greatest}, api.OK},
		{call{"Sub", Sub}, api.Span{Lo: 0, Hi: 0}, api.Span{Lo: least, Hi: 0}, api.Span{}, api.ErrOver},
		{call{"Sub", Sub}, api.Span{Lo: 0, Hi: 0}, api.Span{Lo: 0, Hi: greatest}, api.Span{Lo: least + 1, Hi: 0}, api.OK},
		{call{"Mul", Mul}, api.Span{Lo: -2, Hi: 3}, api.Span{Lo: -5, Hi: -4}, api.Span{Lo: -15, Hi: 10}, api.OK},
		{call{"Mul", Mul}, api.Span{Lo: -3, Hi: -2}, api.Span{Lo: -5, Hi: -4}, api.Span{Lo: 8, Hi: 15}, api.OK},
		{call{"Mul", Mul}, api.Span{Lo: -3, Hi: 2}, api.Span{Lo: -4, Hi: 7}, api.Span{Lo: -21, Hi: 14}, api.OK},
		{call{"Mul", Mul}, api.Span{Lo: least, Hi: 0}, api.Span{Lo: 0, Hi: 1}, api.Span{Lo: least, Hi: 0}, api.OK},
		{call{"Mul", Mul}, api.Span{Lo: least, Hi: 0}, api.Span{Lo: -1, Hi: 0}, api.Span{}, api.ErrOver},
		{call{"Mul", Mul}, api.Span{Lo: least + 1, Hi: greatest}, api.Span{Lo: -1, Hi: 1}, api.Span{Lo: least + 1, Hi: greatest}, api.OK},
		{call{"Mul", Mul}, api.Span{Lo: least, Hi: greatest}, api.Span{Lo: 0, Hi: 0}, api.Span{}, api.OK},
		{call{"Mul", Mul}, api.Span{Lo: -1 << 32, Hi: 0}, api.Span{Lo: 0, Hi: 1 << 31}, api.Span{Lo: least, Hi: 0}, api.OK},
		{call{"Mul", Mul}, api.Span{Lo: 0, Hi: 1 << 32}, api.Span{Lo: 0, Hi: 1 << 31}, api.Span{}, api.ErrOver},
		{call{"Mul", Mul}, api.Span{Lo: 1, Hi: 7}, api.Span{Lo: 1, Hi: greatest / 7}, api.Span{Lo: 1, Hi: greatest}, api.OK},
	} {
		check(t, c.call, c.a, c.b, c.want, c.why)
	}
}

// P5.3
func TestDiv(t *testing.T) {
	div := call{"Div", Div}
	for _, c := range []struct {
		a, b, want api.Span
		why        api.Errno
	}{
		{api.Span{Lo: 6, Hi: 12}, api.Span{Lo: 2, Hi: 3}, api.Span{Lo: 2, Hi: 6}, api.OK},
		{api.Span{Lo: 7, Hi: 7}, api.Span{Lo: 2, Hi: 2}, api.Span{Lo: 3, Hi: 4}, api.OK},
		{api.Span{Lo: -7, Hi: -7}, api.Span{Lo: 2, Hi: 2}, api.Span{Lo: -4, Hi: -3}, api.OK},
		{api.Span{Lo: 7, Hi: 7}, api.Span{Lo: -2, Hi: -2}, api.Span{Lo: -4, Hi: -3}, api.OK},
		{api.Span{Lo: -7, Hi: 9}, api.Span{Lo: 2, Hi: 4}, api.Span{Lo: -4, Hi: 5}, api.OK},
		{api.Span{Lo: -7, Hi: 9}, api.Span{Lo: -4, Hi: -2}, api.Span{Lo: -5, Hi: 4}, api.OK},
		{api.Span{Lo: 5, Hi: 9}, api.Span{Lo: -4, Hi: -2}, api.Span{Lo: -5, Hi: -1}, api.OK},
		{api.Span{Lo: -9, Hi: -5}, api.Span{Lo: -4, Hi: -2}, api.Span{Lo: 1, Hi: 5}, api.OK},
		{api.Span{Lo: 1, Hi: 1}, api.Span{Lo: 1, Hi: greatest}, api.Span{Lo: 0, Hi: 1}, api.OK},
		{api.Span{Lo: 1, Hi: 1}, api.Span{Lo: least, Hi: -1}, api.Span{Lo: -1, Hi: 0}, api.OK},
		{api.Span{}, api.Span{Lo: least, Hi: -1}, api.Span{}, api.OK},
		{api.Span{Lo: least, Hi: greatest}, api.Span{Lo: 1, Hi: greatest}, api.Span{Lo: least, Hi: greatest}, api.OK},
		{api.Span{Lo: least + 1, Hi: greatest}, api.Span{Lo: least, Hi: -1}, api.Span{Lo: least + 1, Hi: greatest}, api.OK},
		{api.Span{Lo: least, Hi: greatest}, api.Span{Lo: -2, Hi: -1}, api.Span{}, api.ErrOver},
		{api.Span{Lo: least, Hi: least}, api.Span{Lo: -1, Hi: -1}, api.Span{}, api.ErrOver},
		{api.Span{Lo: least, Hi: least}, api.Span{Lo: least, Hi: -1}, api.Span{}, api.ErrOver},
		{api.Span{Lo: least, Hi: least}, api.Span{Lo: least, Hi: -2}, api.Span{Lo: 1, Hi: 1 << 62}, api.OK},
		{api.Span{Lo: least, Hi: least}, api.Span{Lo: -3, Hi: -2}, api.Span{Lo: 3074457345618258602, Hi: 1 << 62}, api.OK},
		{api.Span{Lo: 4, Hi: 8}, api.Span{Lo: 0, Hi: 0}, api.Span{}, api.ErrZero},
		{api.Span{Lo: 4, Hi: 8}, api.Span{Lo: 0, Hi: 2}, api.Span{}, api.ErrZero},
		{api.Span{Lo: 4, Hi: 8}, api.Span{Lo: -2, Hi: 0}, api.Span{}, api.ErrZero},
		{api.Span{Lo: 4, Hi: 8}, api.Span{Lo: -1, Hi: 1}, api.Span{}, api.ErrZero},
		{api.Span{}, api.Span{Lo: -3, Hi: 5}, api.Span{}, api.ErrZero},
		// One end would be no int either: a divisor that has 0 is told first.
		{api.Span{Lo: least, Hi: least}, api.Span{Lo: -1, Hi: 1}, api.Span{}, api.ErrZero},
		{api.Span{Lo: least, Hi: greatest}, api.Span{Lo: least, Hi: greatest}, api.Span{}, api.ErrZero},
	} {
		check(t, div, c.a, c.b, c.want, c.why)
	}
}

// radicands are 0 and small numbers, squares and the numbers beside them, up to the greatest that is an int, and 2^63 - 1.
func radicands() []int {
	l := []int{greatest, greatest - 1}
	for x := range 20 {
		l = append(l, x)
	}
	for _, x := range []int{5, 1000, 1<<16 - 1, 1 << 16, 1<<31 - 1, 1 << 31, 1<<31 + 1, rootOfGreatest - 1, rootOfGreatest} {
		l = append(l, x*x-1, x*x, x*x+1)
	}
	return l
}

// P5.3: of each two numbers, the one rounded down and the other up.
func TestRoot(t *testing.T) {
	for _, a := range spans(radicands()) {
		low := new(big.Int).Sqrt(number(a.Lo))
		high := new(big.Int).Sqrt(number(a.Hi))
		if new(big.Int).Mul(high, high).Cmp(number(a.Hi)) < 0 {
			high.Add(high, number(1))
		}
		want := api.Span{Lo: int(low.Int64()), Hi: int(high.Int64())}
		if got, why := Root(a); got != want || why != api.OK {
			t.Errorf("Root(%v) = %v, %d; want %v", a, got, why, want)
		}
	}
}

// P5.3: roots that are told by their numbers, and what has none.
func TestRootAtTheEdges(t *testing.T) {
	const square = rootOfGreatest * rootOfGreatest
	for _, c := range []struct {
		a, want api.Span
		why     api.Errno
	}{
		{api.Span{}, api.Span{}, api.OK},
		{api.Span{Lo: 0, Hi: 1}, api.Span{Lo: 0, Hi: 1}, api.OK},
		{api.Span{Lo: 2, Hi: 2}, api.Span{Lo: 1, Hi: 2}, api.OK},
		{api.Span{Lo: 9, Hi: 9}, api.Span{Lo: 3, Hi: 3}, api.OK},
		{api.Span{Lo: 8, Hi: 10}, api.Span{Lo: 2, Hi: 4}, api.OK},
		{api.Span{Lo: square, Hi: square}, api.Span{Lo: rootOfGreatest, Hi: rootOfGreatest}, api.OK},
		{api.Span{Lo: square - 1, Hi: square + 1}, api.Span{Lo: rootOfGreatest - 1, Hi: rootOfGreatest + 1}, api.OK},
		{api.Span{Lo: greatest, Hi: greatest}, api.Span{Lo: rootOfGreatest, Hi: rootOfGreatest + 1}, api.OK},
		{api.Span{Lo: 0, Hi: greatest}, api.Span{Lo: 0, Hi: rootOfGreatest + 1}, api.OK},
		{api.Span{Lo: -1, Hi: -1}, api.Span{}, api.ErrRange},
		{api.Span{Lo: -1, Hi: 0}, api.Span{}, api.ErrRange},
		{api.Span{Lo: -1, Hi: 9}, api.Span{}, api.ErrRange},
		{api.Span{Lo: least, Hi: greatest}, api.Span{}, api.ErrRange},
		{api.Span{Lo: least, Hi: least}, api.Span{}, api.ErrRange},
	} {
		if got, why := Root(c.a); got != c.want || why != c.why {
			t.Errorf("Root(%v) = %v, %d; want %v, %d", c.a, got, why, c.want, c.why)
		}
	}
}

// P5.1 and P1: a span that may not be is told in either place, ahead of what has 0, or is no int, and with a zero span.
func TestWhatMayNotBe(t *testing.T) {
	for _, c := range calls() {
		for _, wrong := range noSpans() {
			for _, right := range spans(edges()) {
				check(t, c, wrong, right, api.Span{}, api.ErrArg)
				check(t, c, right, wrong, api.Span{}, api.ErrArg)
			}
			for _, other := range noSpans() {
				check(t, c, wrong, other, api.Span{}, api.ErrArg)
			}
		}
	}
}

// P5.1 and P1: where Lo is below 0, too, what may not be is told first.
func TestRootOfWhatMayNotBe(t *testing.T) {
	for _, wrong := range noSpans() {
		if got, why := Root(wrong); got != (api.Span{}) || why != api.ErrArg {
			t.Errorf("Root(%v) = %v, %d; want ErrArg", wrong, got, why)
		}
	}
}

// P5.1 to P5.3: the chapter's examples.
func TestExamples(t *testing.T) {
	check(t, call{"Mul", Mul}, api.Span{Lo: -2, Hi: 3}, api.Span{Lo: -1, Hi: 4}, api.Span{Lo: -8, Hi: 12}, api.OK)
	check(t, call{"Div", Div}, api.Span{Lo: 1, Hi: 7}, api.Span{Lo: 2, Hi: 3}, api.Span{Lo: 0, Hi: 4}, api.OK)
	if got, why := Root(api.Span{Lo: 2, Hi: 10}); got != (api.Span{Lo: 1, Hi: 4}) || why != api.OK {
		t.Errorf("Root(2 to 10) = %v, %d", got, why)
	}
}

// met is which ends of a result are met by numbers of both spans, but for rounding; what is beyond one is told.
func met(t *testing.T, c call, a, b, got api.Span, l []int) (bool, bool) {
	t.Helper()
	low, high := false, false
	for _, x := range numbers(a, l) {
		for _, y := range numbers(b, l) {
			v := exact(c.name, x, y)
			if v.Cmp(fraction(number(got.Lo))) < 0 || v.Cmp(fraction(number(got.Hi))) > 0 {
				t.Errorf("%s(%v, %v) = %v, which doesn't have that of %d and %d", c.name, a, b, got, x, y)
			}
			low = low || down(v).Cmp(number(got.Lo)) == 0
			high = high || up(v).Cmp(number(got.Hi)) == 0
		}
	}
	return low, high
}

// P5.4: what is done with numbers of two spans is in what is done with these, and both ends are met.
func TestNumbersAreInWhatTheirSpansLeadTo(t *testing.T) {
	for _, l := range [][]int{small(), edges()} {
		for _, c := range calls()[1:] {
			for _, a := range spans(l) {
				for _, b := range spans(l) {
					got, why := c.do(a, b)
					if why != api.OK {
						continue
					}
					if low, high := met(t, c, a, b, got, l); !low || !high {
						t.Errorf("%s(%v, %v) = %v, of which an end is not met", c.name, a, b, got)
					}
				}
			}
		}
	}
}

// P5.4: the root of each number of a span is in the span's root.
func TestRootsAreInTheirSpansRoot(t *testing.T) {
	for _, a := range spans(radicands()) {
		got, why := Root(a)
		if why != api.OK {
			t.Fatalf("Root(%v) tells %d", a, why)
		}
		low, high := number(got.Lo), number(got.Hi)
		for _, x := range numbers(a, radicands()) {
			if new(big.Int).Mul(low, low).Cmp(number(x)) > 0 || new(big.Int).Mul(high, high).Cmp(number(x)) < 0 {
				t.Errorf("Root(%v) = %v, which doesn't have that of %d", a, got, x)
			}
		}
	}
}

// within is whether all of a is in b.
func within(a, b api.Span) bool { return Has(b, a.Lo) && Has(b, a.Hi) }

// inner are the spans of the list that are in a.
func inner(a api.Span, all []api.Span) []api.Span {
	var l []api.Span
	for _, s := range all {
		if within(s, a) {
			l = append(l, s)
		}
	}
	return l
}

// checkInner holds what spans in a and b lead to against what a and b lead to.
func checkInner(t *testing.T, c call, a, b api.Span, all []api.Span) {
	t.Helper()
	outer, why := c.do(a, b)
	if why != api.OK {
		return
	}
	for _, x := range inner(a, all) {
		for _, y := range inner(b, all) {
			if got, told := c.do(x, y); told != api.OK || !within(got, outer) {
				t.Errorf("%s(%v, %v) = %v, %d; but %s(%v, %v) = %v", c.name, x, y, got, told, c.name, a, b, outer)
			}
		}
	}
}

// P5.4: a span in another one leads into what that one leads to.
func TestInnerSpansLeadInward(t *testing.T) {
	for _, l := range [][]int{{-3, -2, 0, 1, 3}, {least, least + 1, -1 << 62, -2, 0, 1, greatest}} {
		all := spans(l)
		for _, c := range calls() {
			for _, a := range all {
				for _, b := range all {
					checkInner(t, c, a, b, all)
				}
			}
		}
	}
}

// P5.4
func TestInnerRootsLeadInward(t *testing.T) {
	all := spans([]int{0, 1, 2, 3, 4, 5, 9, 10, 1 << 62, 1<<62 + 1, greatest})
	for _, a := range all {
		outer, _ := Root(a)
		for _, x := range inner(a, all) {
			if got, why := Root(x); why != api.OK || !within(got, outer) {
				t.Errorf("Root(%v) = %v, %d; but Root(%v) = %v", x, got, why, a, outer)
			}
		}
	}
}

// R1: the same arguments lead to the same answers, whatever was asked, and refused, between.
func TestNothingIsKept(t *testing.T) {
	a, b, wrong := api.Span{Lo: -6, Hi: 9}, api.Span{Lo: 2, Hi: 3}, api.Span{Lo: 1}
	for range 3 {
		check(t, call{"Add", Add}, a, b, api.Span{Lo: -4, Hi: 12}, api.OK)
		check(t, call{"Mul", Mul}, a, wrong, api.Span{}, api.ErrArg)
		check(t, call{"Sub", Sub}, a, b, api.Span{Lo: -9, Hi: 7}, api.OK)
		check(t, call{"Div", Div}, b, a, api.Span{}, api.ErrZero)
		check(t, call{"Mul", Mul}, a, b, api.Span{Lo: -18, Hi: 27}, api.OK)
		check(t, call{"Add", Add}, api.Span{Lo: least, Hi: greatest}, b, api.Span{}, api.ErrOver)
		check(t, call{"Div", Div}, a, b, api.Span{Lo: -3, Hi: 5}, api.OK)
	}
}
