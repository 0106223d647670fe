package ratio

import (
	"math"
	"math/big"
	"testing"

	"datum/api"
)

const (
	least    = math.MinInt
	greatest = math.MaxInt
)

// call is a function of two ratios, with its name, and what it makes of two numbers, as nothing is lost.
type call struct {
	name  string
	do    func(a, b api.Ratio) (api.Ratio, api.Errno)
	exact func(z, x, y *big.Rat) *big.Rat
}

// calls are both functions that make a ratio of two.
func calls() []call {
	return []call{{"Add", Add, (*big.Rat).Add}, {"Mul", Mul, (*big.Rat).Mul}}
}

// ints are those at the ends, at 0, beside them, and some with many divisors, or none.
func ints() []int {
	return []int{least, least + 1, least + 2, -1 << 62, -3037000500, -1 << 32, -12, -7, -6, -4, -3, -2, -1, 0,
		1, 2, 3, 4, 6, 7, 12, 1 << 31, 1 << 32, 3037000499, greatest / 7, 1 << 62, greatest - 1, greatest}
}

// sample answers deterministic ints, of all lengths.
func sample() func() int {
	state := uint64(6)
	next := func() uint64 {
		state = state*6364136223846793005 + 1442695040888963407
		return state ^ state>>29
	}
	return func() int {
		length := next() >> 8 % 64
		return int(next()) >> length
	}
}

func number(x int) *big.Int { return big.NewInt(int64(x)) }

func divided(n, d int) *big.Rat { return new(big.Rat).SetFrac(number(n), number(d)) }

func exactOf(r api.Ratio) *big.Rat { return divided(r.Num, r.Den) }

// told is the number as a ratio: big's Rats are in lowest terms, their divisors above 0.
func told(x *big.Rat) (api.Ratio, api.Errno) {
	if !x.Num().IsInt64() || !x.Denom().IsInt64() {
		return api.Ratio{}, api.ErrOver
	}
	return api.Ratio{Num: int(x.Num().Int64()), Den: int(x.Denom().Int64())}, api.OK
}

// mayBe is whether the ratio may be, by big's greatest common divisor.
func mayBe(r api.Ratio) bool {
	if r.Den < 1 {
		return false
	}
	size := new(big.Int).Abs(number(r.Num))
	return new(big.Int).GCD(nil, nil, size, number(r.Den)).Cmp(number(1)) == 0
}

// ratios are all that may be of two of the ints.
func ratios() []api.Ratio {
	var all []api.Ratio
	for _, n := range ints() {
		for _, d := range ints() {
			if r := (api.Ratio{Num: n, Den: d}); mayBe(r) {
				all = append(all, r)
			}
		}
	}
	return all
}

// few are ratios of which three at a time can be gone through: below 0 and above, near one another, and at the ends.
func few() []api.Ratio {
	return []api.Ratio{{Num: 0, Den: 1}, {Num: 1, Den: 1}, {Num: -1, Den: 1}, {Num: 1, Den: 2}, {Num: -1, Den: 2}, {Num: 1, Den: 3}, {Num: -3, Den: 2}, {Num: 5, Den: 6}, {Num: -7, Den: 12}, {Num: 22, Den: 7}, {Num: 1000, Den: 1},
		{Num: 1, Den: 1 << 31}, {Num: -1, Den: 1<<31 - 1}, {Num: 1 << 31, Den: 3}, {Num: least, Den: 1}, {Num: least, Den: greatest}, {Num: greatest, Den: 1}, {Num: greatest, Den: greatest - 1}, {Num: greatest - 1, Den: greatest}, {Num: 1, Den: greatest}, {Num: -1, Den: greatest}, {Num: 1, Den: 1 << 62}, {Num: -1, Den: 1 << 62}}
}

// noRatios are some that may not be.
func noRatios() []api.Ratio {
	return []api.Ratio{{}, {Num: 1}, {Num: -1}, {Num: least}, {Num: greatest},
		{Num: 1, Den: -1}, {Num: 0, Den: -1}, {Num: 3, Den: -2}, {Num: -3, Den: -2}, {Num: 1, Den: least}, {Num: least, Den: -1}, {Num: least, Den: least}, {Num: greatest, Den: least}, {Num: 1, Den: -greatest},
		{Num: 0, Den: 2}, {Num: 0, Den: 3}, {Num: 0, Den: greatest}, {Num: 2, Den: 2}, {Num: -2, Den: 2}, {Num: 2, Den: 4}, {Num: -6, Den: 4}, {Num: 15, Den: 35}, {Num: least, Den: 2}, {Num: least, Den: 1 << 62}, {Num: greatest, Den: 7}, {Num: greatest, Den: greatest}, {Num: -greatest, Den: greatest}, {Num: greatest - 1, Den: 2}}
}

// check holds one answer against what is wanted.
func check(t *testing.T, c call, a, b, want api.Ratio, why api.Errno) {
	t.Helper()
	if got, told := c.do(a, b); got != want || told != why {
		t.Errorf("%s(%v, %v) = %v, %d; want %v, %d", c.name, a, b, got, told, want, why)
	}
}

// P6.1
func TestRight(t *testing.T) {
	for _, r := range few() {
		if !Right(r) {
			t.Errorf("Right(%v) = false", r)
		}
	}
	for _, r := range noRatios() {
		if Right(r) {
			t.Errorf("Right(%v) = true", r)
		}
	}
}

// P6.1: of all two small ints, and of those at the ends.
func TestRightOfAll(t *testing.T) {
	for n := -30; n <= 30; n++ {
		for d := -30; d <= 30; d++ {
			if r := (api.Ratio{Num: n, Den: d}); Right(r) != mayBe(r) {
				t.Errorf("Right(%v) = %v", r, Right(r))
			}
		}
	}
	for _, n := range ints() {
		for _, d := range ints() {
			if r := (api.Ratio{Num: n, Den: d}); Right(r) != mayBe(r) {
				t.Errorf("Right(%v) = %v", r, Right(r))
			}
		}
	}
}

// checkNew holds New's answer against what the exact number is.
func checkNew(t *testing.T, n, d int) api.Errno {
	t.Helper()
	want, why := api.Ratio{}, api.ErrZero
	if d != 0 {
		want, why = told(divided(n, d))
	}
	got, errno := New(n, d)
	if got != want || errno != why {
		t.Errorf("New(%d, %d) = %v, %d; want %v, %d", n, d, got, errno, want, why)
	}
	if errno == api.OK && !Right(got) {
		t.Errorf("New(%d, %d) = %v, which may not be", n, d, got)
	}
	return errno
}

// P6.1, P2: small ints, those at the ends, and some of all lengths.
func TestNewOfAll(t *testing.T) {
	for n := -30; n <= 30; n++ {
		for d := -30; d <= 30; d++ {
			checkNew(t, n, d)
		}
	}
	over := 0
	for _, n := range ints() {
		for _, d := range ints() {
			if checkNew(t, n, d) == api.ErrOver {
				over++
			}
		}
	}
	if over < 5 {
		t.Errorf("%d ratios with no int were looked at", over)
	}
	next := sample()
	for range 2000 {
		checkNew(t, next(), next())
	}
}

// P6.1: signs, lowest terms, and what is an int in these alone, or isn't even there.
func TestNew(t *testing.T) {
	for _, c := range []struct {
		n, d int
		want api.Ratio
		why  api.Errno
	}{
		{6, 4, api.Ratio{Num: 3, Den: 2}, api.OK},
		{-6, 4, api.Ratio{Num: -3, Den: 2}, api.OK},
		{6, -4, api.Ratio{Num: -3, Den: 2}, api.OK},
		{-6, -4, api.Ratio{Num: 3, Den: 2}, api.OK},
		{0, 5, api.Ratio{Num: 0, Den: 1}, api.OK},
		{0, -5, api.Ratio{Num: 0, Den: 1}, api.OK},
		{0, least, api.Ratio{Num: 0, Den: 1}, api.OK},
		{0, greatest, api.Ratio{Num: 0, Den: 1}, api.OK},
		{7, 1, api.Ratio{Num: 7, Den: 1}, api.OK},
		{7, 7, api.Ratio{Num: 1, Den: 1}, api.OK},
		{least, 1, api.Ratio{Num: least, Den: 1}, api.OK},
		{least, 3, api.Ratio{Num: least, Den: 3}, api.OK},
		{least, greatest, api.Ratio{Num: least, Den: greatest}, api.OK},
		{least + 1, -1, api.Ratio{Num: greatest, Den: 1}, api.OK},
		{least + 1, greatest, api.Ratio{Num: -1, Den: 1}, api.OK},
		{greatest, least + 1, api.Ratio{Num: -1, Den: 1}, api.OK},
		{least, least, api.Ratio{Num: 1, Den: 1}, api.OK},
		{least, -2, api.Ratio{Num: 1 << 62, Den: 1}, api.OK},
		{least, -6, api.Ratio{Num: 1 << 62, Den: 3}, api.OK},
		{2, least, api.Ratio{Num: -1, Den: 1 << 62}, api.OK},
		{-6, least, api.Ratio{Num: 3, Den: 1 << 62}, api.OK},
		{1, greatest, api.Ratio{Num: 1, Den: greatest}, api.OK},
		{1, least + 1, api.Ratio{Num: -1, Den: greatest}, api.OK},
		{greatest, greatest - 1, api.Ratio{Num: greatest, Den: greatest - 1}, api.OK},
		{least, -1, api.Ratio{}, api.ErrOver},
		{least, -3, api.Ratio{}, api.ErrOver},
		{least, least + 1, api.Ratio{}, api.ErrOver},
		{1, least, api.Ratio{}, api.ErrOver},
		{-1, least, api.Ratio{}, api.ErrOver},
		{greatest, least, api.Ratio{}, api.ErrOver},
		{least + 1, least, api.Ratio{}, api.ErrOver},
		{1, 0, api.Ratio{}, api.ErrZero},
		{0, 0, api.Ratio{}, api.ErrZero},
		{-1, 0, api.Ratio{}, api.ErrZero},
		{least, 0, api.Ratio{}, api.ErrZero},
		{greatest, 0, api.Ratio{}, api.ErrZero},
	} {
		if got, why := New(c.n, c.d); got != c.want || why != c.why {
			t.Errorf("New(%d, %d) = %v, %d; want %v, %d", c.n, c.d, got, why, c.want, c.why)
		}
	}
}

// checkPair holds Cmp, Add and Mul of two ratios against what the exact numbers are, and counts what is told.
func checkPair(t *testing.T, a, b api.Ratio, count map[string]int) {
	t.Helper()
	x, y := exactOf(a), exactOf(b)
	if got, why := Cmp(a, b); got != x.Cmp(y) || why != api.OK {
		t.Errorf("Cmp(%v, %v) = %d, %d; want %d", a, b, got, why, x.Cmp(y))
	}
	for _, c := range calls() {
		want, why := told(c.exact(new(big.Rat), x, y))
		check(t, c, a, b, want, why)
		if why == api.OK {
			count[c.name]++
		} else {
			count[c.name+" over"]++
		}
		if why == api.OK && !Right(want) {
			t.Errorf("%s(%v, %v) = %v, which may not be", c.name, a, b, want)
		}
	}
}

// P6.2, P2: ratios at the edges, each against each.
func TestPairsAtTheEdges(t *testing.T) {
	count := map[string]int{}
	all := append(ratios(), few()...)
	for _, a := range all {
		for _, b := range few() {
			checkPair(t, a, b, count)
			checkPair(t, b, a, count)
		}
	}
	for _, name := range []string{"Add", "Add over", "Mul", "Mul over"} {
		if count[name] < 100 {
			t.Errorf("%s: %d were looked at", name, count[name])
		}
	}
}

// P6.2: all ratios of small ints.
func TestSmallPairs(t *testing.T) {
	var small []api.Ratio
	for n := -7; n <= 7; n++ {
		for d := 1; d <= 7; d++ {
			if r := (api.Ratio{Num: n, Den: d}); mayBe(r) {
				small = append(small, r)
			}
		}
	}
	count := map[string]int{}
	for _, a := range small {
		for _, b := range small {
			checkPair(t, a, b, count)
		}
	}
	if count["Add over"] != 0 || count["Mul over"] != 0 {
		t.Errorf("small ratios are refused: %v", count)
	}
}

// P6.2: ratios of all lengths.
func TestPairsOfAllLengths(t *testing.T) {
	next := sample()
	count := map[string]int{}
	for range 3000 {
		a, why := New(next(), next())
		b, told := New(next(), next())
		if why == api.OK && told == api.OK {
			checkPair(t, a, b, count)
		}
	}
	if count["Add"] < 300 || count["Mul"] < 300 || count["Add over"] < 300 || count["Mul over"] < 300 {
		t.Errorf("few were looked at: %v", count)
	}
}

// P6.2: both products beyond an int, the same or one apart.
func TestCmp(t *testing.T) {
	for _, c := range []struct {
		a, b api.Ratio
		want int
	}{
		{api.Ratio{Num: 0, Den: 1}, api.Ratio{Num: 0, Den: 1}, 0},
		{api.Ratio{Num: 0, Den: 1}, api.Ratio{Num: 1, Den: greatest}, -1},
		{api.Ratio{Num: 0, Den: 1}, api.Ratio{Num: -1, Den: greatest}, 1},
		{api.Ratio{Num: 1, Den: 2}, api.Ratio{Num: 1, Den: 3}, 1},
		{api.Ratio{Num: -1, Den: 2}, api.Ratio{Num: -1, Den: 3}, -1},
		{api.Ratio{Num: -1, Den: 2}, api.Ratio{Num: 1, Den: 3}, -1},
		{api.Ratio{Num: 5, Den: 7}, api.Ratio{Num: 5, Den: 7}, 0},
		{api.Ratio{Num: least, Den: greatest}, api.Ratio{Num: -1, Den: 1}, -1},
		{api.Ratio{Num: least, Den: greatest}, api.Ratio{Num: least, Den: greatest}, 0},
		{api.Ratio{Num: least, Den: greatest}, api.Ratio{Num: greatest, Den: 1}, -1},
		{api.Ratio{Num: greatest, Den: greatest - 1}, api.Ratio{Num: greatest, Den: greatest - 1}, 0},
		{api.Ratio{Num: greatest, Den: greatest - 1}, api.Ratio{Num: greatest - 1, Den: greatest - 2}, -1},
		{api.Ratio{Num: greatest - 1, Den: greatest}, api.Ratio{Num: greatest - 2, Den: greatest - 1}, 1},
		{api.Ratio{Num: -greatest, Den: greatest - 1}, api.Ratio{Num: 1 - greatest, Den: greatest - 2}, 1},
		{api.Ratio{Num: 1 << 40, Den: 1<<40 + 1}, api.Ratio{Num: 1<<40 - 1, Den: 1 << 40}, 1},
		{api.Ratio{Num: least, Den: 1}, api.Ratio{Num: greatest, Den: 1}, -1},
		{api.Ratio{Num: least, Den: 1}, api.Ratio{Num: least + 1, Den: 1}, -1},
	} {
		if got, why := Cmp(c.a, c.b); got != c.want || why != api.OK {
			t.Errorf("Cmp(%v, %v) = %d, %d; want %d", c.a, c.b, got, why, c.want)
		}
		if got, why := Cmp(c.b, c.a); got != -c.want || why != api.OK {
			t.Errorf("Cmp(%v, %v) = %d, %d; want %d", c.b, c.a, got, why, -c.want)
		}
	}
}

// P6.2: what is on the way is no int, but the answer is; or what is told is none, as its Num isn't, or its Den, or both.
func TestAddAtTheEdges(t *testing.T) {
	add := calls()[0]
	for _, c := range []struct {
		a, b, want api.Ratio
		why        api.Errno
	}{
		{api.Ratio{Num: 1, Den: 6}, api.Ratio{Num: 1, Den: 3}, api.Ratio{Num: 1, Den: 2}, api.OK},
		{api.Ratio{Num: 1, Den: 2}, api.Ratio{Num: -1, Den: 2}, api.Ratio{Num: 0, Den: 1}, api.OK},
		{api.Ratio{Num: -3, Den: 4}, api.Ratio{Num: 1, Den: 4}, api.Ratio{Num: -1, Den: 2}, api.OK},
		{api.Ratio{Num: 1, Den: greatest}, api.Ratio{Num: greatest - 1, Den: greatest}, api.Ratio{Num: 1, Den: 1}, api.OK},
		{api.Ratio{Num: greatest, Den: greatest - 1}, api.Ratio{Num: -greatest, Den: greatest - 1}, api.Ratio{Num: 0, Den: 1}, api.OK},
		{api.Ratio{Num: least, Den: 3}, api.Ratio{Num: 2, Den: 3}, api.Ratio{Num: -3074457345618258602, Den: 1}, api.OK},
		{api.Ratio{Num: least, Den: greatest}, api.Ratio{Num: 1, Den: greatest}, api.Ratio{Num: -1, Den: 1}, api.OK},
		{api.Ratio{Num: least, Den: 1}, api.Ratio{Num: greatest, Den: 1}, api.Ratio{Num: -1, Den: 1}, api.OK},
		{api.Ratio{Num: 1, Den: 1 << 62}, api.Ratio{Num: 1, Den: 1 << 62}, api.Ratio{Num: 1, Den: 1 << 61}, api.OK},
		{api.Ratio{Num: -1 << 62, Den: 1}, api.Ratio{Num: -1 << 62, Den: 1}, api.Ratio{Num: least, Den: 1}, api.OK},
		{api.Ratio{Num: 1 << 62, Den: 1}, api.Ratio{Num: 1 << 62, Den: 1}, api.Ratio{}, api.ErrOver},
		{api.Ratio{Num: greatest, Den: 1}, api.Ratio{Num: 1, Den: 1}, api.Ratio{}, api.ErrOver},
		{api.Ratio{Num: least, Den: 1}, api.Ratio{Num: -1, Den: 1}, api.Ratio{}, api.ErrOver},
		{api.Ratio{Num: least, Den: 1}, api.Ratio{Num: least, Den: 1}, api.Ratio{}, api.ErrOver},
		{api.Ratio{Num: greatest, Den: 1}, api.Ratio{Num: 1, Den: 2}, api.Ratio{}, api.ErrOver},
		{api.Ratio{Num: least, Den: 1}, api.Ratio{Num: 1, Den: 2}, api.Ratio{}, api.ErrOver},
		{api.Ratio{Num: 1, Den: greatest}, api.Ratio{Num: 1, Den: 2}, api.Ratio{}, api.ErrOver},
		{api.Ratio{Num: 1, Den: greatest}, api.Ratio{Num: -1, Den: greatest - 1}, api.Ratio{}, api.ErrOver},
		{api.Ratio{Num: 1, Den: 1 << 32}, api.Ratio{Num: 1, Den: 1<<31 - 1}, api.Ratio{Num: 6442450943, Den: 9223372032559808512}, api.OK},
		{api.Ratio{Num: 1, Den: 1 << 32}, api.Ratio{Num: -1, Den: 1<<31 + 1}, api.Ratio{}, api.ErrOver},
		{api.Ratio{Num: least, Den: greatest}, api.Ratio{Num: least, Den: greatest - 2}, api.Ratio{}, api.ErrOver},
	} {
		// Where a line of the table is wrong, the exact numbers tell.
		if want, why := told(new(big.Rat).Add(exactOf(c.a), exactOf(c.b))); want != c.want || why != c.why {
			t.Errorf("%v and %v are %v, %d", c.a, c.b, want, why)
		}
		check(t, add, c.a, c.b, c.want, c.why)
		check(t, add, c.b, c.a, c.want, c.why)
	}
}

// P6.2
func TestMulAtTheEdges(t *testing.T) {
	mul := calls()[1]
	for _, c := range []struct {
		a, b, want api.Ratio
		why        api.Errno
	}{
		{api.Ratio{Num: 2, Den: 3}, api.Ratio{Num: 3, Den: 4}, api.Ratio{Num: 1, Den: 2}, api.OK},
		{api.Ratio{Num: -2, Den: 3}, api.Ratio{Num: -3, Den: 4}, api.Ratio{Num: 1, Den: 2}, api.OK},
		{api.Ratio{Num: -2, Den: 3}, api.Ratio{Num: 0, Den: 1}, api.Ratio{Num: 0, Den: 1}, api.OK},
		{api.Ratio{Num: least, Den: greatest}, api.Ratio{Num: 0, Den: 1}, api.Ratio{Num: 0, Den: 1}, api.OK},
		{api.Ratio{Num: least, Den: greatest}, api.Ratio{Num: greatest, Den: 1}, api.Ratio{Num: least, Den: 1}, api.OK},
		{api.Ratio{Num: least, Den: greatest}, api.Ratio{Num: -greatest, Den: 1 << 62}, api.Ratio{Num: 2, Den: 1}, api.OK},
		{api.Ratio{Num: greatest, Den: greatest - 1}, api.Ratio{Num: greatest - 1, Den: greatest}, api.Ratio{Num: 1, Den: 1}, api.OK},
		{api.Ratio{Num: 1 << 62, Den: 3}, api.Ratio{Num: 3, Den: 1 << 61}, api.Ratio{Num: 2, Den: 1}, api.OK},
		{api.Ratio{Num: -1 << 62, Den: 1}, api.Ratio{Num: 2, Den: 1}, api.Ratio{Num: least, Den: 1}, api.OK},
		{api.Ratio{Num: least, Den: 1}, api.Ratio{Num: -1, Den: 2}, api.Ratio{Num: 1 << 62, Den: 1}, api.OK},
		{api.Ratio{Num: 1, Den: 7}, api.Ratio{Num: 1, Den: greatest / 7}, api.Ratio{Num: 1, Den: greatest}, api.OK},
		{api.Ratio{Num: 1 << 62, Den: 1}, api.Ratio{Num: 2, Den: 1}, api.Ratio{}, api.ErrOver},
		{api.Ratio{Num: least, Den: 1}, api.Ratio{Num: -1, Den: 1}, api.Ratio{}, api.ErrOver},
		{api.Ratio{Num: least, Den: 3}, api.Ratio{Num: -1, Den: 5}, api.Ratio{}, api.ErrOver},
		{api.Ratio{Num: least, Den: 1}, api.Ratio{Num: least, Den: 1}, api.Ratio{}, api.ErrOver},
		{api.Ratio{Num: 1, Den: 1 << 62}, api.Ratio{Num: 1, Den: 2}, api.Ratio{}, api.ErrOver},
		{api.Ratio{Num: 1, Den: greatest}, api.Ratio{Num: 1, Den: 2}, api.Ratio{}, api.ErrOver},
		{api.Ratio{Num: greatest, Den: greatest - 1}, api.Ratio{Num: greatest, Den: greatest - 1}, api.Ratio{}, api.ErrOver},
	} {
		if want, why := told(new(big.Rat).Mul(exactOf(c.a), exactOf(c.b))); want != c.want || why != c.why {
			t.Errorf("%v times %v is %v, %d", c.a, c.b, want, why)
		}
		check(t, mul, c.a, c.b, c.want, c.why)
		check(t, mul, c.b, c.a, c.want, c.why)
	}
}

// scales are the least and the greatest that may be, and some between.
func scales() []int { return []int{1, 2, 3, 6, 10, 1000, 1 << 31, 1 << 62, greatest - 1, greatest} }

// enclosed is what Enclose should tell: big's Div of a divisor above 0 rounds down.
func enclosed(r api.Ratio, scale int) (api.Span, api.Errno) {
	times := new(big.Int).Mul(number(r.Num), number(scale))
	low := new(big.Int).Div(times, number(r.Den))
	high := new(big.Int).Div(new(big.Int).Neg(times), number(r.Den))
	high.Neg(high)
	if !low.IsInt64() || !high.IsInt64() {
		return api.Span{}, api.ErrOver
	}
	return api.Span{Lo: int(low.Int64()), Hi: int(high.Int64())}, api.OK
}

// checkEnclose holds one answer against what is wanted.
func checkEnclose(t *testing.T, r api.Ratio, scale int, want api.Span, told api.Errno) {
	t.Helper()
	if got, why := Enclose(r, scale); got != want || why != told {
		t.Errorf("Enclose(%v, %d) = %v, %d; want %v, %d", r, scale, got, why, want, told)
	}
}

// P6.3, P2
func TestEncloseOfAll(t *testing.T) {
	count := map[api.Errno]int{}
	for _, r := range append(ratios(), few()...) {
		for _, scale := range scales() {
			want, why := enclosed(r, scale)
			checkEnclose(t, r, scale, want, why)
			count[why]++
		}
	}
	if count[api.OK] < 100 || count[api.ErrOver] < 100 {
		t.Errorf("few were looked at: %v", count)
	}
}

// P6.3: below 0 and above, with something left and nothing, and which end is no int makes no difference.
func TestEnclose(t *testing.T) {
	for _, c := range []struct {
		r     api.Ratio
		scale int
		want  api.Span
		why   api.Errno
	}{
		{api.Ratio{Num: 3, Den: 2}, 1, api.Span{Lo: 1, Hi: 2}, api.OK},
		{api.Ratio{Num: 3, Den: 2}, 2, api.Span{Lo: 3, Hi: 3}, api.OK},
		{api.Ratio{Num: -3, Den: 2}, 2, api.Span{Lo: -3, Hi: -3}, api.OK},
		{api.Ratio{Num: 1, Den: 3}, 1, api.Span{Lo: 0, Hi: 1}, api.OK},
		{api.Ratio{Num: -1, Den: 3}, 1, api.Span{Lo: -1, Hi: 0}, api.OK},
		{api.Ratio{Num: 1, Den: 3}, 1000, api.Span{Lo: 333, Hi: 334}, api.OK},
		{api.Ratio{Num: 0, Den: 1}, 1, api.Span{}, api.OK},
		{api.Ratio{Num: 0, Den: 1}, greatest, api.Span{}, api.OK},
		{api.Ratio{Num: 1, Den: 1}, greatest, api.Span{Lo: greatest, Hi: greatest}, api.OK},
		{api.Ratio{Num: -1, Den: 1}, greatest, api.Span{Lo: least + 1, Hi: least + 1}, api.OK},
		{api.Ratio{Num: 1, Den: greatest}, greatest, api.Span{Lo: 1, Hi: 1}, api.OK},
		{api.Ratio{Num: 1, Den: greatest}, 1, api.Span{Lo: 0, Hi: 1}, api.OK},
		{api.Ratio{Num: least, Den: 1}, 1, api.Span{Lo: least, Hi: least}, api.OK},
		{api.Ratio{Num: least, Den: greatest}, greatest, api.Span{Lo: least, Hi: least}, api.OK},
		{api.Ratio{Num: greatest - 1, Den: greatest}, greatest, api.Span{Lo: greatest - 1, Hi: greatest - 1}, api.OK},
		{api.Ratio{Num: 1, Den: 2}, greatest, api.Span{Lo: greatest / 2, Hi: 1 << 62}, api.OK},
		{api.Ratio{Num: 2, Den: 1}, greatest, api.Span{}, api.ErrOver},
		{api.Ratio{Num: least, Den: 1}, 2, api.Span{}, api.ErrOver},
		{api.Ratio{Num: least, Den: 1}, greatest, api.Span{}, api.ErrOver},
		{api.Ratio{Num: greatest, Den: 2}, 3, api.Span{}, api.ErrOver},
		// (2^64 - 1) by 2 lies between 2^63 - 1, which is an int, and 2^63, which is none.
		{api.Ratio{Num: 6148914691236517205, Den: 2}, 3, api.Span{}, api.ErrOver},
		// -(2^64 + 1) by 2 lies between -2^63 - 1, which is none, and -2^63, which is an int.
		{api.Ratio{Num: -67280421310721, Den: 2}, 274177, api.Span{}, api.ErrOver},
		{api.Ratio{Num: 1, Den: 2}, 0, api.Span{}, api.ErrRange},
		{api.Ratio{Num: 1, Den: 2}, -1, api.Span{}, api.ErrRange},
		{api.Ratio{Num: 1, Den: 2}, least, api.Span{}, api.ErrRange},
		{api.Ratio{Num: 0, Den: 1}, 0, api.Span{}, api.ErrRange},
		{api.Ratio{Num: least, Den: 1}, least, api.Span{}, api.ErrRange},
		{api.Ratio{Num: greatest, Den: 1}, -greatest, api.Span{}, api.ErrRange},
	} {
		checkEnclose(t, c.r, c.scale, c.want, c.why)
	}
}

// P6.2 and P1: a ratio that may not be is told in either place, ahead of a scale that may not be and of what is no int, with zero values.
func TestWhatMayNotBe(t *testing.T) {
	for _, wrong := range noRatios() {
		for _, other := range append(ratios(), noRatios()...) {
			for _, c := range calls() {
				check(t, c, wrong, other, api.Ratio{}, api.ErrArg)
				check(t, c, other, wrong, api.Ratio{}, api.ErrArg)
			}
			if got, why := Cmp(wrong, other); got != 0 || why != api.ErrArg {
				t.Errorf("Cmp(%v, %v) = %d, %d; want ErrArg", wrong, other, got, why)
			}
			if got, why := Cmp(other, wrong); got != 0 || why != api.ErrArg {
				t.Errorf("Cmp(%v, %v) = %d, %d; want ErrArg", other, wrong, got, why)
			}
		}
		for _, scale := range append(scales(), 0, -1, least) {
			checkEnclose(t, wrong, scale, api.Span{}, api.ErrArg)
		}
	}
}

// P6.1 to P6.3: the chapter's examples.
func TestExamples(t *testing.T) {
	if got, why := New(6, -4); got != (api.Ratio{Num: -3, Den: 2}) || why != api.OK {
		t.Errorf("New(6, -4) = %v, %d", got, why)
	}
	check(t, calls()[0], api.Ratio{Num: 1, Den: 2}, api.Ratio{Num: 1, Den: 3}, api.Ratio{Num: 5, Den: 6}, api.OK)
	checkEnclose(t, api.Ratio{Num: -3, Den: 2}, 1, api.Span{Lo: -2, Hi: -1}, api.OK)
}

// compare is what Cmp tells of two ratios that may be.
func compare(t *testing.T, a, b api.Ratio) int {
	t.Helper()
	got, why := Cmp(a, b)
	if why != api.OK {
		t.Errorf("Cmp(%v, %v) tells %d", a, b, why)
	}
	return got
}

// P6.4: each two are less, the same or more, the same just if they are one, and what is less than a lesser one is less.
func TestCmpIsAnOrder(t *testing.T) {
	for _, a := range few() {
		for _, b := range few() {
			ab := compare(t, a, b)
			if (ab == 0) != (a == b) || ab < -1 || ab > 1 || compare(t, b, a) != -ab {
				t.Errorf("Cmp(%v, %v) = %d, the other way %d", a, b, ab, compare(t, b, a))
			}
			for _, c := range few() {
				if ab < 0 && compare(t, b, c) <= 0 && compare(t, a, c) != -1 {
					t.Errorf("%v, %v and %v are in no order", a, b, c)
				}
			}
		}
	}
}

// P6.4: what is added to both keeps their order.
func TestWhatIsAddedKeepsTheOrder(t *testing.T) {
	kept := 0
	for _, a := range few() {
		for _, b := range few() {
			for _, c := range few() {
				x, why := Add(a, c)
				y, told := Add(b, c)
				if why != api.OK || told != api.OK {
					continue
				}
				kept++
				if compare(t, x, y) != compare(t, a, b) {
					t.Errorf("%v and %v, each with %v, are in another order", a, b, c)
				}
			}
		}
	}
	if kept < 1000 {
		t.Errorf("%d were looked at", kept)
	}
}

// P6.4: two may be added and multiplied in either order, three from either side, where nothing is refused.
func TestOrderOfAddAndMul(t *testing.T) {
	same := 0
	for _, call := range calls() {
		for _, a := range few() {
			for _, b := range few() {
				ab, why := call.do(a, b)
				check(t, call, b, a, ab, why)
				for _, c := range few() {
					bc, told := call.do(b, c)
					if why != api.OK || told != api.OK {
						continue
					}
					left, over := call.do(ab, c)
					if over == api.OK {
						check(t, call, a, bc, left, api.OK)
						same++
					}
				}
			}
		}
	}
	if same < 1000 {
		t.Errorf("%d were looked at", same)
	}
}

// spread is both sides of a times b and c together, and whether nothing was refused.
func spread(a, b, c api.Ratio) (api.Ratio, api.Ratio, bool) {
	bc, why1 := Add(b, c)
	left, why2 := Mul(a, bc)
	ab, why3 := Mul(a, b)
	ac, why4 := Mul(a, c)
	right, why5 := Add(ab, ac)
	for _, why := range []api.Errno{why1, why2, why3, why4, why5} {
		if why != api.OK {
			return left, right, false
		}
	}
	return left, right, true
}

// P6.4: a times what b and c are together is what a times b, and a times c, are together.
func TestMulIsSpreadOverAdd(t *testing.T) {
	same := 0
	for _, a := range few() {
		for _, b := range few() {
			for _, c := range few() {
				left, right, ok := spread(a, b, c)
				if !ok {
					continue
				}
				same++
				if left != right {
					t.Errorf("%v times %v and %v is %v, or %v", a, b, c, left, right)
				}
			}
		}
	}
	if same < 1000 {
		t.Errorf("%d were looked at", same)
	}
}

// P6.4: what encloses has what it encloses, and is 1 wide just if something is left, else 0.
func TestWhatEnclosesIsAtMostOneWide(t *testing.T) {
	for _, r := range append(ratios(), few()...) {
		for _, scale := range scales() {
			got, why := Enclose(r, scale)
			if why != api.OK {
				continue
			}
			exact := new(big.Rat).Mul(exactOf(r), divided(scale, 1))
			width := uint64(got.Hi) - uint64(got.Lo)
			if width > 1 || (width == 0) != exact.IsInt() || exact.Cmp(divided(got.Lo, 1)) < 0 || exact.Cmp(divided(got.Hi, 1)) > 0 {
				t.Errorf("Enclose(%v, %d) = %v", r, scale, got)
			}
		}
	}
}

// R1: the same arguments lead to the same answers, whatever was asked, and refused, between.
func TestNothingIsKept(t *testing.T) {
	half, third, wrong := api.Ratio{Num: 1, Den: 2}, api.Ratio{Num: -1, Den: 3}, api.Ratio{Num: 2, Den: 4}
	add, mul := calls()[0], calls()[1]
	for range 3 {
		check(t, add, half, third, api.Ratio{Num: 1, Den: 6}, api.OK)
		check(t, mul, half, wrong, api.Ratio{}, api.ErrArg)
		checkEnclose(t, third, 10, api.Span{Lo: -4, Hi: -3}, api.OK)
		check(t, add, api.Ratio{Num: greatest, Den: 1}, half, api.Ratio{}, api.ErrOver)
		check(t, mul, half, third, api.Ratio{Num: -1, Den: 6}, api.OK)
		checkEnclose(t, half, 0, api.Span{}, api.ErrRange)
		if got := compare(t, half, third); got != 1 {
			t.Errorf("Cmp(%v, %v) = %d", half, third, got)
		}
		checkNew(t, 6, -4)
		checkNew(t, 6, 0)
	}
}
