package root

import (
	"math/big"
	"testing"

	"datum/api"
	"datum/wide"
)

const top = 1<<64 - 1

var (
	one = api.W{Lo: 1}
	all = api.W{Hi: top, Lo: top}
)

func word(x uint64) *big.Int { return new(big.Int).SetUint64(x) }

func value(a api.W) *big.Int {
	v := new(big.Int).Lsh(word(a.Hi), 64)
	return v.Add(v, word(a.Lo))
}

func square(v *big.Int) *big.Int { return new(big.Int).Mul(v, v) }

// roots are numbers of one word whose squares are looked at: small ones, powers of two with their neighbours, and others of many sizes, the same ones each time.
func roots() []uint64 {
	var l []uint64
	for x := range uint64(40) {
		l = append(l, x, top-x, 1<<32-20+x)
	}
	for k := range 64 {
		l = append(l, 1<<k-1, 1<<k, 1<<k+1)
	}
	state := uint64(1)
	for i := range 300 {
		state = state*6364136223846793005 + 1442695040888963407
		l = append(l, (state^state>>29)>>(i%64))
	}
	return l
}

// beside are a and the numbers one and two below and above it, those that went round as well.
func beside(a api.W) []api.W {
	l := []api.W{a}
	for d := range uint64(2) {
		below, _ := wide.Sub(a, api.W{Lo: d + 1})
		above, _ := wide.Add(a, api.W{Lo: d + 1})
		l = append(l, below, above)
	}
	return l
}

// samples are squares, edges, and the numbers beside them.
func samples() []api.W {
	var l []api.W
	for _, x := range roots() {
		l = append(l, beside(wide.Mul(x, x))...)
		l = append(l, beside(api.W{Hi: x})...)
		l = append(l, api.W{Lo: x}, api.W{Hi: top - x, Lo: x}, api.W{Hi: x, Lo: top - x})
	}
	return append(l, beside(api.W{Lo: top})...)
}

// checkWords holds the answers against what the promise says of squares, in big integers.
func checkWords(t *testing.T, a api.W) {
	t.Helper()
	v := value(a)
	low, up := word(Root(a)), value(Up(a))
	if square(low).Cmp(v) > 0 || square(new(big.Int).Add(low, big.NewInt(1))).Cmp(v) <= 0 {
		t.Errorf("Root(%v) = %v, which is not the greatest whose square is not more", a, low)
	}
	// 0 has none below it.
	if square(up).Cmp(v) < 0 || up.Sign() > 0 && square(new(big.Int).Sub(up, big.NewInt(1))).Cmp(v) >= 0 {
		t.Errorf("Up(%v) = %v, which is not the least whose square is not less", a, up)
	}
	is := square(new(big.Int).Sqrt(v)).Cmp(v) == 0
	if got := Square(a); got != is {
		t.Errorf("Square(%v) = %v", a, got)
	}
}

// P3.1
func TestRootUpAndSquare(t *testing.T) {
	for _, a := range samples() {
		checkWords(t, a)
	}
}

// P3.1
func TestSmall(t *testing.T) {
	for a := range uint64(3000) {
		checkWords(t, api.W{Lo: a})
	}
}

// P3.1
func TestEdges(t *testing.T) {
	for _, c := range []struct {
		a  api.W
		r  uint64
		up api.W
	}{
		{api.W{}, 0, api.W{}},
		{api.W{Lo: 1}, 1, api.W{Lo: 1}},
		{api.W{Lo: 2}, 1, api.W{Lo: 2}},
		{api.W{Lo: 3}, 1, api.W{Lo: 2}},
		{api.W{Lo: 4}, 2, api.W{Lo: 2}},
		{api.W{Lo: 5}, 2, api.W{Lo: 3}},
		{api.W{Lo: 8}, 2, api.W{Lo: 3}},
		{api.W{Lo: 9}, 3, api.W{Lo: 3}},
		{api.W{Lo: 10}, 3, api.W{Lo: 4}},
		{api.W{Lo: 99}, 9, api.W{Lo: 10}},
		{api.W{Lo: 100}, 10, api.W{Lo: 10}},
		{api.W{Lo: 101}, 10, api.W{Lo: 11}},
		// (2^32 - 1)^2 and beside it.
		{api.W{Lo: 0xfffffffe00000000}, 1<<32 - 2, api.W{Lo: 1<<32 - 1}},
		{api.W{Lo: 0xfffffffe00000001}, 1<<32 - 1, api.W{Lo: 1<<32 - 1}},
		{api.W{Lo: 0xfffffffe00000002}, 1<<32 - 1, api.W{Lo: 1 << 32}},
		{api.W{Lo: top}, 1<<32 - 1, api.W{Lo: 1 << 32}},
		{api.W{Hi: 1}, 1 << 32, api.W{Lo: 1 << 32}},
		{api.W{Hi: 1, Lo: 1}, 1 << 32, api.W{Lo: 1<<32 + 1}},
		// (2^63)^2 and beside it.
		{api.W{Hi: 1<<62 - 1, Lo: top}, 1<<63 - 1, api.W{Lo: 1 << 63}},
		{api.W{Hi: 1 << 62}, 1 << 63, api.W{Lo: 1 << 63}},
		{api.W{Hi: 1 << 62, Lo: 1}, 1 << 63, api.W{Lo: 1<<63 + 1}},
		// (2^64 - 1)^2 and beside it.
		{api.W{Hi: top - 1}, top - 1, api.W{Lo: top}},
		{api.W{Hi: top - 1, Lo: 1}, top, api.W{Lo: top}},
		{api.W{Hi: top - 1, Lo: 2}, top, api.W{Hi: 1}},
		{api.W{Hi: top}, top, api.W{Hi: 1}},
		{api.W{Hi: top, Lo: top - 1}, top, api.W{Hi: 1}},
		{all, top, api.W{Hi: 1}},
	} {
		if r, up := Root(c.a), Up(c.a); r != c.r || up != c.up {
			t.Errorf("Root and Up of %v are %v and %v; want %v and %v", c.a, r, up, c.r, c.up)
		}
		if got, is := Square(c.a), c.up == (api.W{Lo: c.r}); got != is {
			t.Errorf("Square(%v) = %v", c.a, got)
		}
	}
}

// P3.1: squares, of all numbers of one word that are looked at, lead back to these.
func TestSquaresLeadBack(t *testing.T) {
	for _, x := range roots() {
		a := wide.Mul(x, x)
		if r, up := Root(a), Up(a); r != x || up != (api.W{Lo: x}) || !Square(a) {
			t.Errorf("Root, Up and Square of %d times itself are %v, %v and %v", x, r, up, Square(a))
		}
	}
}

// P3.2
func TestSameOfSquaresAndElseOneApart(t *testing.T) {
	squares, others := 0, 0
	for _, a := range samples() {
		apart, below := wide.Sub(Up(a), api.W{Lo: Root(a)})
		r := new(big.Int).Sqrt(value(a))
		want := one
		if square(r).Cmp(value(a)) == 0 {
			want = api.W{}
			squares++
		} else {
			others++
		}
		if apart != want || below {
			t.Errorf("Root and Up of %v are %v and %v", a, Root(a), Up(a))
		}
	}
	if squares < 500 || others < 2000 {
		t.Errorf("%d squares and %d others were looked at", squares, others)
	}
}

// checkRise holds the roots of a number against those of one that is not less.
func checkRise(t *testing.T, a, b api.W) {
	t.Helper()
	if Root(b) < Root(a) || wide.Less(Up(b), Up(a)) {
		t.Errorf("Root and Up are %v and %v of %v, but %v and %v of %v", Root(a), Up(a), a, Root(b), Up(b), b)
	}
}

// P3.2
func TestRise(t *testing.T) {
	for _, a := range samples() {
		for _, b := range []api.W{{}, one, {Lo: top}, {Hi: 1}, {Hi: 1 << 62}, {Hi: top - 1, Lo: 1}, all} {
			if wide.Less(b, a) {
				checkRise(t, b, a)
			} else {
				checkRise(t, a, b)
			}
		}
		if next, over := wide.Add(a, one); !over {
			checkRise(t, a, next)
		}
	}
}

// R1: the same arguments lead to the same answers, whatever was asked between.
func TestNothingIsKept(t *testing.T) {
	a := api.W{Hi: 7, Lo: 3}
	r, up, is := Root(a), Up(a), Square(a)
	for _, b := range []api.W{{}, {Lo: 9}, all} {
		Root(b)
		Up(b)
		Square(b)
	}
	if Root(a) != r || Up(a) != up || Square(a) != is {
		t.Errorf("Root, Up and Square of %v are %v, %v, %v; before %v, %v, %v", a, Root(a), Up(a), Square(a), r, up, is)
	}
}
