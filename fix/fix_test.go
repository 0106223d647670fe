package fix

import (
	"math"
	"math/big"
	"testing"

	"datum/api"
)

const (
	least    = math.MinInt
	greatest = math.MaxInt
)

// edges are the ints at the ends, at 0, and beside them.
func edges() []int {
	return []int{least, least + 1, -1, 0, 1, greatest - 1, greatest}
}

// modes are all that there are.
func modes() []int { return []int{api.MDown, api.MUp, api.MNear} }

// noModes are some that are none, below and above.
func noModes() []int { return []int{least, -2, -1, 3, 4, greatest} }

// ordinary are n ints of many sizes and either sign, the same ones each time.
func ordinary(n int) []int {
	state := uint64(1)
	var l []int
	for i := range n {
		state = state*6364136223846793005 + 1442695040888963407
		x := int((state ^ state>>29) >> (1 + i*7%63))
		if i%2 == 1 {
			x = -x
		}
		l = append(l, x)
	}
	return l
}

// powers are all powers of two that are ints, and the numbers beside them, of either sign.
func powers() []int {
	var l []int
	for k := range 63 {
		x := 1 << k
		l = append(l, x-1, x, x+1, -x+1, -x, -x-1)
	}
	return l
}

// small are numbers near 0, of which many products, quotients and halves are whole.
func small() []int {
	var l []int
	for x := -7; x <= 7; x++ {
		l = append(l, x)
	}
	return l
}

// factors are what products and quotients are made of, in every triple.
func factors() []int {
	l := append(edges(), small()...)
	l = append(l, 10, 1000, 1<<31, 1<<32, -1<<32, 1<<62-1, 1<<62, 1<<62+1, -1<<62, least+2, greatest-2)
	return append(l, ordinary(12)...)
}

func number(x int) *big.Int { return big.NewInt(int64(x)) }

// rounded is p divided by q, rounded by the mode, as the chapter's words say it: the greatest that is not more, the least that is not less, and of both the one that is nearer, or even.
func rounded(p, q *big.Int, mode int) *big.Int {
	if q.Sign() < 0 {
		p, q = new(big.Int).Neg(p), new(big.Int).Neg(q)
	}
	// Of a divisor above 0, Div and Mod round down.
	low := new(big.Int).Div(p, q)
	left := new(big.Int).Mod(p, q)
	if left.Sign() == 0 {
		return low
	}
	high := new(big.Int).Add(low, big.NewInt(1))
	lacking := new(big.Int).Sub(q, left)
	switch {
	case mode == api.MDown:
		return low
	case mode == api.MUp:
		return high
	case left.Cmp(lacking) < 0:
		return low
	case left.Cmp(lacking) > 0:
		return high
	case low.Bit(0) == 0:
		return low
	}
	return high
}

// check holds an answer against the number that it stands for: ErrOver and 0, if that is no int.
func check(t *testing.T, call string, args []int, got int, why api.Errno, exact *big.Int) {
	t.Helper()
	want, told := 0, api.ErrOver
	if exact.IsInt64() {
		want, told = int(exact.Int64()), api.OK
	}
	if got != want || why != told {
		t.Errorf("%s of %v = %d, %d; want %d, %d, as the number is %v", call, args, got, why, want, told, exact)
	}
}

// checkPair holds Add, Sub and Mul of two ints against big integers.
func checkPair(t *testing.T, a, b int) {
	t.Helper()
	x, y, args := number(a), number(b), []int{a, b}
	sum, why := Add(a, b)
	check(t, "Add", args, sum, why, new(big.Int).Add(x, y))
	rest, why := Sub(a, b)
	check(t, "Sub", args, rest, why, new(big.Int).Sub(x, y))
	product, why := Mul(a, b)
	check(t, "Mul", args, product, why, new(big.Int).Mul(x, y))
}

// P4.1
func TestEdgesInEveryPair(t *testing.T) {
	for _, a := range edges() {
		for _, b := range edges() {
			checkPair(t, a, b)
		}
	}
}

// P4.1
func TestAddSubAndMul(t *testing.T) {
	l := append(edges(), small()...)
	l = append(append(l, powers()...), ordinary(100)...)
	for _, a := range l {
		for _, b := range l {
			checkPair(t, a, b)
		}
	}
}

// P4.1: what is just an int, and just none.
func TestJustAnInt(t *testing.T) {
	for _, c := range []struct {
		name string
		call func(a, b int) (int, api.Errno)
		a, b int
		want int
		why  api.Errno
	}{
		{"Add", Add, 2, 3, 5, api.OK},
		{"Add", Add, greatest - 1, 1, greatest, api.OK},
		{"Add", Add, greatest, 1, 0, api.ErrOver},
		{"Add", Add, 1, greatest, 0, api.ErrOver},
		{"Add", Add, 1 << 62, 1<<62 - 1, greatest, api.OK},
		{"Add", Add, 1 << 62, 1 << 62, 0, api.ErrOver},
		{"Add", Add, greatest, greatest, 0, api.ErrOver},
		{"Add", Add, least + 1, -1, least, api.OK},
		{"Add", Add, least, -1, 0, api.ErrOver},
		{"Add", Add, -1, least, 0, api.ErrOver},
		{"Add", Add, -1 << 62, -1 << 62, least, api.OK},
		{"Add", Add, -1 << 62, -1<<62 - 1, 0, api.ErrOver},
		{"Add", Add, least, least, 0, api.ErrOver},
		{"Add", Add, least, greatest, -1, api.OK},
		{"Add", Add, least, 0, least, api.OK},
		{"Sub", Sub, 2, 3, -1, api.OK},
		{"Sub", Sub, least + 1, 1, least, api.OK},
		{"Sub", Sub, least, 1, 0, api.ErrOver},
		{"Sub", Sub, greatest - 1, -1, greatest, api.OK},
		{"Sub", Sub, greatest, -1, 0, api.ErrOver},
		{"Sub", Sub, -1, least, greatest, api.OK},
		{"Sub", Sub, 0, least, 0, api.ErrOver},
		{"Sub", Sub, 0, greatest, least + 1, api.OK},
		{"Sub", Sub, -1, greatest, least, api.OK},
		{"Sub", Sub, -2, greatest, 0, api.ErrOver},
		{"Sub", Sub, least, least, 0, api.OK},
		{"Sub", Sub, greatest, least, 0, api.ErrOver},
		{"Sub", Sub, least, greatest, 0, api.ErrOver},
		{"Mul", Mul, -6, 7, -42, api.OK},
		{"Mul", Mul, 1 << 31, 1 << 31, 1 << 62, api.OK},
		{"Mul", Mul, 1 << 32, 1 << 31, 0, api.ErrOver},
		{"Mul", Mul, -1 << 32, 1 << 31, least, api.OK},
		{"Mul", Mul, 1 << 32, -1 << 31, least, api.OK},
		{"Mul", Mul, -1 << 32, -1 << 31, 0, api.ErrOver},
		// 2^63 - 1 is 7^2 times 73, 127, 337, 92737 and 649657.
		{"Mul", Mul, 7, greatest / 7, greatest, api.OK},
		{"Mul", Mul, -7, -(greatest / 7), greatest, api.OK},
		{"Mul", Mul, 7, -(greatest / 7), least + 1, api.OK},
		// 2^63 + 1 is 3^3 times 19, 43, 5419 and 77158673929.
		{"Mul", Mul, -3, 3074457345618258603, 0, api.ErrOver},
		{"Mul", Mul, least, 1, least, api.OK},
		{"Mul", Mul, least, -1, 0, api.ErrOver},
		{"Mul", Mul, -1, least, 0, api.ErrOver},
		{"Mul", Mul, greatest, -1, least + 1, api.OK},
		{"Mul", Mul, least, 0, 0, api.OK},
		{"Mul", Mul, 0, -5, 0, api.OK},
		// Products whose low word alone would be an int.
		{"Mul", Mul, least, 2, 0, api.ErrOver},
		{"Mul", Mul, 1 << 32, 1 << 32, 0, api.ErrOver},
		{"Mul", Mul, least, least, 0, api.ErrOver},
		{"Mul", Mul, greatest, greatest, 0, api.ErrOver},
	} {
		if got, why := c.call(c.a, c.b); got != c.want || why != c.why {
			t.Errorf("%s(%d, %d) = %d, %d; want %d, %d", c.name, c.a, c.b, got, why, c.want, c.why)
		}
	}
}

// P4.2
func TestMulDiv(t *testing.T) {
	ints, over := 0, 0
	for _, a := range factors() {
		for _, b := range factors() {
			product := new(big.Int).Mul(number(a), number(b))
			for _, c := range factors() {
				if c == 0 {
					continue
				}
				for _, mode := range modes() {
					got, why := MulDiv(a, b, c, mode)
					check(t, "MulDiv", []int{a, b, c, mode}, got, why, rounded(product, number(c), mode))
					if why == api.OK {
						ints++
					} else {
						over++
					}
				}
			}
		}
	}
	if ints < 10000 || over < 10000 {
		t.Errorf("%d results that are ints and %d that are none were looked at", ints, over)
	}
}

// checkMulDiv holds one answer, by its mode, against what is told.
func checkMulDiv(t *testing.T, a, b, c, mode, want int, told api.Errno) {
	t.Helper()
	if got, why := MulDiv(a, b, c, mode); got != want || why != told {
		t.Errorf("MulDiv(%d, %d, %d, %d) = %d, %d; want %d, %d", a, b, c, mode, got, why, want, told)
	}
}

// P4.2: the chapter's examples.
func TestExamples(t *testing.T) {
	checkMulDiv(t, -7, 1, 2, api.MDown, -4, api.OK)
	checkMulDiv(t, -7, 1, 2, api.MUp, -3, api.OK)
	checkMulDiv(t, 5, 1, 2, api.MNear, 2, api.OK)
	checkMulDiv(t, 1<<62, 4, 8, api.MDown, 1<<61, api.OK)
}

// P4.2: the nearest, where less than half, just half, and more than half is left, of either sign, beside odd and even numbers.
func TestNearest(t *testing.T) {
	for _, c := range []struct{ a, b, c, want int }{
		{1, 1, 2, 0}, {3, 1, 2, 2}, {5, 1, 2, 2}, {7, 1, 2, 4}, {9, 1, 2, 4}, {11, 1, 2, 6},
		{-1, 1, 2, 0}, {-3, 1, 2, -2}, {-5, 1, 2, -2}, {-7, 1, 2, -4}, {-9, 1, 2, -4}, {-11, 1, 2, -6},
		{1, 1, -2, 0}, {3, 1, -2, -2}, {5, -1, -2, 2}, {-7, -1, -2, -4}, {-7, 1, -2, 4},
		{5, 3, 6, 2}, {5, 3, 10, 2}, {5, 5, 10, 2}, {5, 7, 10, 4}, {-5, 5, 10, -2}, {-5, 7, 10, -4},
		{1, 1, 3, 0}, {2, 1, 3, 1}, {4, 1, 3, 1}, {5, 1, 3, 2}, {-1, 1, 3, 0}, {-2, 1, 3, -1}, {-4, 1, 3, -1}, {-5, 1, 3, -2},
		{1, 1, 4, 0}, {2, 1, 4, 0}, {3, 1, 4, 1}, {5, 1, 4, 1}, {6, 1, 4, 2}, {7, 1, 4, 2},
		// Half of 2^63 is left, and one more or less.
		{1 << 62, 1, least, 0}, {1 << 62, 3, least, -2}, {1 << 62, -5, least, 2}, {1 << 62, -7, least, 4},
		{1<<62 - 1, -1, least, 0}, {1<<62 + 1, -1, least, 1}, {1<<62 + 1, 1, least, -1},
		// Half of 2^63 - 2, and of 2^63 - 1, which is odd.
		{1<<62 - 1, 1, greatest - 1, 0}, {1 << 62, 1, greatest - 1, 1}, {1<<62 - 1, 3, greatest - 1, 2},
		{1<<62 - 1, 1, greatest, 0}, {1 << 62, 1, greatest, 1}, {-1 << 62, 1, greatest, -1},
		{greatest, 1, 2, 1 << 62}, {greatest - 2, 1, 2, 1<<62 - 2}, {least + 1, 1, 2, -1 << 62}, {least + 3, 1, 2, -1<<62 + 2},
	} {
		checkMulDiv(t, c.a, c.b, c.c, api.MNear, c.want, api.OK)
	}
}

// P4.2: what is just an int by one mode may be just none by another.
func TestJustAnIntByMode(t *testing.T) {
	for _, c := range []struct {
		a, b, c  int
		want     [3]int
		told     [3]api.Errno
		quotient string
	}{
		{4294967297, 4294967295, 2, [3]int{greatest, 0, 0}, [3]api.Errno{api.OK, api.ErrOver, api.ErrOver}, "2^63 - 1/2"},
		{274177, 67280421310721, -2, [3]int{0, least, least}, [3]api.Errno{api.ErrOver, api.OK, api.OK}, "-2^63 - 1/2"},
		{4294967297, -4294967295, 2, [3]int{least, least + 1, least}, [3]api.Errno{}, "-2^63 + 1/2"},
		{greatest - 1, least, -greatest, [3]int{greatest - 1, greatest, greatest}, [3]api.Errno{}, "2^63 - 1 - 1/(2^63 - 1)"},
		{least, least, greatest, [3]int{0, 0, 0}, [3]api.Errno{api.ErrOver, api.ErrOver, api.ErrOver}, "2^63 + 1 + 1/(2^63 - 1)"},
		{greatest, greatest, least, [3]int{least + 1, least + 2, least + 2}, [3]api.Errno{}, "-2^63 + 2 - 1/2^63"},
		{greatest, greatest, greatest, [3]int{greatest, greatest, greatest}, [3]api.Errno{}, "2^63 - 1"},
		{least, least, least, [3]int{least, least, least}, [3]api.Errno{}, "-2^63"},
		{least, greatest, -greatest, [3]int{0, 0, 0}, [3]api.Errno{api.ErrOver, api.ErrOver, api.ErrOver}, "2^63"},
		{least, -1, 1, [3]int{0, 0, 0}, [3]api.Errno{api.ErrOver, api.ErrOver, api.ErrOver}, "2^63"},
		{least, 1, -1, [3]int{0, 0, 0}, [3]api.Errno{api.ErrOver, api.ErrOver, api.ErrOver}, "2^63"},
		{least, least, 1, [3]int{0, 0, 0}, [3]api.Errno{api.ErrOver, api.ErrOver, api.ErrOver}, "2^126"},
		{1 << 32, 1 << 32, 1, [3]int{0, 0, 0}, [3]api.Errno{api.ErrOver, api.ErrOver, api.ErrOver}, "2^64"},
		{1, 1, greatest, [3]int{0, 1, 0}, [3]api.Errno{}, "1/(2^63 - 1)"},
		{1, 1, least, [3]int{-1, 0, 0}, [3]api.Errno{}, "-1/2^63"},
		{0, least, least, [3]int{0, 0, 0}, [3]api.Errno{}, "0"},
	} {
		for _, mode := range modes() {
			if got, why := MulDiv(c.a, c.b, c.c, mode); got != c.want[mode] || why != c.told[mode] {
				t.Errorf("MulDiv(%d, %d, %d, %d) = %d, %d; want %d, %d, as the number is %s", c.a, c.b, c.c, mode, got, why, c.want[mode], c.told[mode], c.quotient)
			}
		}
	}
}

// P4.2 and P1: a mode that is none is told ahead of a divisor of 0, and that ahead of a result that is no int; beside each the result is 0.
func TestWhatIsWrong(t *testing.T) {
	for _, a := range edges() {
		for _, b := range edges() {
			for _, mode := range noModes() {
				for _, c := range edges() {
					checkMulDiv(t, a, b, c, mode, 0, api.ErrArg)
				}
			}
			for _, mode := range modes() {
				checkMulDiv(t, a, b, 0, mode, 0, api.ErrZero)
			}
		}
	}
}

// thirds are the answers by all three modes, if all are ints.
func thirds(a, b, c int) (low, high, nearest int, all bool) {
	low, one := MulDiv(a, b, c, api.MDown)
	high, two := MulDiv(a, b, c, api.MUp)
	nearest, three := MulDiv(a, b, c, api.MNear)
	return low, high, nearest, one == api.OK && two == api.OK && three == api.OK
}

// P4.3
func TestUpIsAtMostOneMoreThanDown(t *testing.T) {
	same, apart := 0, 0
	for _, a := range factors() {
		for _, b := range factors() {
			product := new(big.Int).Mul(number(a), number(b))
			for _, c := range factors() {
				low, high, nearest, all := thirds(a, b, c)
				if !all {
					continue
				}
				more := 1
				if new(big.Int).Rem(product, number(c)).Sign() == 0 {
					more = 0
					same++
				} else {
					apart++
				}
				if high-low != more {
					t.Errorf("MulDiv(%d, %d, %d) is %d down and %d up", a, b, c, low, high)
				}
				if nearest != low && nearest != high {
					t.Errorf("MulDiv(%d, %d, %d) is %d down, %d up, but the nearest is %d", a, b, c, low, high, nearest)
				}
			}
		}
	}
	if same < 1000 || apart < 10000 {
		t.Errorf("%d quotients of which nothing is left and %d others were looked at", same, apart)
	}
}

// checkOther holds what is rounded down, and to the nearest, of a quotient against what is rounded of the one on the other side of 0.
func checkOther(t *testing.T, a, b, c int) {
	t.Helper()
	for _, pair := range [][2]int{{api.MDown, api.MUp}, {api.MUp, api.MDown}, {api.MNear, api.MNear}} {
		got, why := MulDiv(a, b, c, pair[0])
		other, told := MulDiv(-a, b, c, pair[1])
		switch {
		case why == api.OK && told == api.OK && got == -other && got != least:
		case why == api.ErrOver && told == api.ErrOver:
		// 2^63 is no int, but the one on the other side is.
		case why == api.OK && got == least && told == api.ErrOver:
		case told == api.OK && other == least && why == api.ErrOver:
		default:
			t.Errorf("MulDiv(%d, %d, %d, %d) = %d, %d; MulDiv(%d, %d, %d, %d) = %d, %d", a, b, c, pair[0], got, why, -a, b, c, pair[1], other, told)
		}
	}
}

// P4.3
func TestOtherSideOfZero(t *testing.T) {
	for _, a := range factors() {
		if a == least {
			continue
		}
		for _, b := range factors() {
			for _, c := range factors() {
				if c != 0 {
					checkOther(t, a, b, c)
				}
			}
		}
	}
}

// R1: the same arguments lead to the same answers, whatever was asked, and given up, between.
func TestNothingIsKept(t *testing.T) {
	for range 3 {
		checkPair(t, 40, 2)
		checkMulDiv(t, 40, 3, 7, api.MUp, 18, api.OK)
		checkPair(t, least, least)
		checkMulDiv(t, 40, 3, 0, api.MUp, 0, api.ErrZero)
		checkMulDiv(t, 40, 3, 7, 3, 0, api.ErrArg)
		checkMulDiv(t, least, 3, 1, api.MUp, 0, api.ErrOver)
	}
}
