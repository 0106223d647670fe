package divide

import (
	"math/big"
	"testing"

	"datum/api"
	"datum/wide"
)

const top = 1<<64 - 1

var all = api.W{Hi: top, Lo: top}

func word(x uint64) *big.Int { return new(big.Int).SetUint64(x) }

func value(a api.W) *big.Int {
	v := new(big.Int).Lsh(word(a.Hi), 64)
	return v.Add(v, word(a.Lo))
}

func fromBig(v *big.Int) api.W {
	return api.W{Hi: new(big.Int).Rsh(v, 64).Uint64(), Lo: new(big.Int).And(v, word(top)).Uint64()}
}

// edges are all wide numbers of two words at and beside where a half, or a half's half, is full.
func edges() []api.W {
	words := []uint64{0, 1, 2, 3, 10, 1<<32 - 1, 1 << 32, 1<<63 - 1, 1 << 63, top - 1, top}
	var l []api.W
	for _, hi := range words {
		for _, lo := range words {
			l = append(l, api.W{Hi: hi, Lo: lo})
		}
	}
	return l
}

// ordinary are n wide numbers of many sizes, the same ones each time.
func ordinary(n int) []api.W {
	state := uint64(1)
	next := func() uint64 {
		state = state*6364136223846793005 + 1442695040888963407
		return state ^ state>>29
	}
	var l []api.W
	for i := range n {
		hi, lo := next(), next()
		switch i % 3 {
		case 0:
			hi, lo = 0, lo>>(i%64)
		case 1:
			hi >>= i % 64
		}
		l = append(l, api.W{Hi: hi, Lo: lo})
	}
	return l
}

// powers are all powers of two and the numbers beside them.
func powers() []api.W {
	var l []api.W
	for k := range 128 {
		at := fromBig(new(big.Int).Lsh(big.NewInt(1), uint(k)))
		below, _ := wide.Sub(at, api.W{Lo: 1})
		above, _ := wide.Add(at, api.W{Lo: 1})
		l = append(l, below, at, above)
	}
	return l
}

func samples() []api.W { return append(edges(), ordinary(120)...) }

// checkDiv holds Div against the division of big integers.
func checkDiv(t *testing.T, a, b api.W) {
	t.Helper()
	often, left, err := Div(a, b)
	if b == (api.W{}) {
		if often != (api.W{}) || left != (api.W{}) || err != api.ErrZero {
			t.Errorf("Div(%v, 0) = %v, %v, %v", a, often, left, err)
		}
		return
	}
	q, r := new(big.Int).QuoRem(value(a), value(b), new(big.Int))
	if often != fromBig(q) || left != fromBig(r) || err != api.OK {
		t.Errorf("Div(%v, %v) = %v, %v, %v; want %v, %v", a, b, often, left, err, q, r)
	}
}

// P2.1
func TestDiv(t *testing.T) {
	for _, a := range samples() {
		for _, b := range samples() {
			checkDiv(t, a, b)
		}
	}
	for _, a := range powers() {
		for _, b := range powers() {
			checkDiv(t, a, b)
		}
	}
}

// P2.1
func TestDivSmall(t *testing.T) {
	for a := range uint64(70) {
		for b := range uint64(70) {
			checkDiv(t, api.W{Lo: a}, api.W{Lo: b})
		}
	}
}

// P2.1
func TestDivEdges(t *testing.T) {
	for _, c := range []struct{ a, b, often, left api.W }{
		{api.W{Lo: 17}, api.W{Lo: 5}, api.W{Lo: 3}, api.W{Lo: 2}},
		{api.W{}, api.W{Lo: 1}, api.W{}, api.W{}},
		{api.W{}, all, api.W{}, api.W{}},
		{api.W{Lo: 5}, api.W{Lo: 17}, api.W{}, api.W{Lo: 5}},
		{api.W{Lo: 5}, api.W{Lo: 5}, api.W{Lo: 1}, api.W{}},
		{api.W{Lo: top}, api.W{Lo: 1}, api.W{Lo: top}, api.W{}},
		{api.W{Lo: top}, api.W{Lo: top}, api.W{Lo: 1}, api.W{}},
		{api.W{Lo: top}, api.W{Hi: 1}, api.W{}, api.W{Lo: top}},
		{api.W{Hi: 1}, api.W{Lo: top}, api.W{Lo: 1}, api.W{Lo: 1}},
		{api.W{Hi: 1}, api.W{Hi: 1}, api.W{Lo: 1}, api.W{}},
		{api.W{Hi: 1}, api.W{Lo: 2}, api.W{Lo: 1 << 63}, api.W{}},
		{api.W{Hi: 1}, api.W{Hi: 1, Lo: 1}, api.W{}, api.W{Hi: 1}},
		{api.W{Hi: 7, Lo: 3}, api.W{Hi: 2}, api.W{Lo: 3}, api.W{Hi: 1, Lo: 3}},
		{all, api.W{Lo: 1}, all, api.W{}},
		{all, api.W{Lo: 2}, api.W{Hi: 1<<63 - 1, Lo: top}, api.W{Lo: 1}},
		{all, api.W{Lo: top}, api.W{Hi: 1, Lo: 1}, api.W{}},
		{all, api.W{Hi: 1}, api.W{Lo: top}, api.W{Lo: top}},
		{all, api.W{Hi: 1 << 63}, api.W{Lo: 1}, api.W{Hi: 1<<63 - 1, Lo: top}},
		{all, api.W{Hi: top, Lo: top - 1}, api.W{Lo: 1}, api.W{Lo: 1}},
		{all, all, api.W{Lo: 1}, api.W{}},
		{api.W{Hi: top, Lo: top - 1}, all, api.W{}, api.W{Hi: top, Lo: top - 1}},
	} {
		if often, left, err := Div(c.a, c.b); often != c.often || left != c.left || err != api.OK {
			t.Errorf("Div(%v, %v) = %v, %v, %v; want %v, %v", c.a, c.b, often, left, err, c.often, c.left)
		}
	}
}

// P2.1 and P2.2: beside ErrZero the other results are zero.
func TestNothingToDivideBy(t *testing.T) {
	for _, a := range append(samples(), api.W{}, api.W{Lo: 17}, all) {
		if often, left, err := Div(a, api.W{}); often != (api.W{}) || left != (api.W{}) || err != api.ErrZero {
			t.Errorf("Div(%v, 0) = %v, %v, %v", a, often, left, err)
		}
		if x, y, err := Lowest(a, api.W{}); x != (api.W{}) || y != (api.W{}) || err != api.ErrZero {
			t.Errorf("Lowest(%v, 0) = %v, %v, %v", a, x, y, err)
		}
	}
}

// checkGcd holds Gcd, and Lowest, against what big integers tell.
func checkGcd(t *testing.T, a, b api.W) {
	t.Helper()
	want := new(big.Int).GCD(nil, nil, value(a), value(b))
	if got := Gcd(a, b); got != fromBig(want) {
		t.Errorf("Gcd(%v, %v) = %v; want %v", a, b, got, want)
	}
	if b == (api.W{}) {
		return
	}
	x, y := new(big.Int).Quo(value(a), want), new(big.Int).Quo(value(b), want)
	if p, q, err := Lowest(a, b); p != fromBig(x) || q != fromBig(y) || err != api.OK {
		t.Errorf("Lowest(%v, %v) = %v, %v, %v; want %v, %v", a, b, p, q, err, x, y)
	}
}

// P2.2
func TestGcdAndLowest(t *testing.T) {
	for _, a := range samples() {
		for _, b := range samples() {
			checkGcd(t, a, b)
		}
	}
}

// P2.2
func TestGcdAndLowestSmall(t *testing.T) {
	for a := range uint64(70) {
		for b := range uint64(70) {
			checkGcd(t, api.W{Lo: a}, api.W{Lo: b})
		}
	}
}

// P2.2: neighbours of this row take the most steps.
func TestGcdAndLowestOfManySteps(t *testing.T) {
	a, b := api.W{Lo: 1}, api.W{Lo: 1}
	for {
		checkGcd(t, a, b)
		checkGcd(t, b, a)
		next, over := wide.Add(a, b)
		if over {
			break
		}
		a, b = b, next
	}
}

// P2.2
func TestGcdEdges(t *testing.T) {
	for _, c := range []struct{ a, b, want api.W }{
		{api.W{Lo: 12}, api.W{Lo: 18}, api.W{Lo: 6}},
		{api.W{Lo: 18}, api.W{Lo: 12}, api.W{Lo: 6}},
		{api.W{}, api.W{}, api.W{}},
		{api.W{Lo: 7}, api.W{}, api.W{Lo: 7}},
		{api.W{}, api.W{Lo: 7}, api.W{Lo: 7}},
		{all, api.W{}, all},
		{api.W{}, all, all},
		{api.W{Lo: 7}, api.W{Lo: 7}, api.W{Lo: 7}},
		{api.W{Lo: 1}, all, api.W{Lo: 1}},
		{api.W{Lo: top}, api.W{Hi: 1}, api.W{Lo: 1}},
		{api.W{Lo: 1 << 63}, api.W{Hi: 1}, api.W{Lo: 1 << 63}},
		{api.W{Hi: 6}, api.W{Hi: 4}, api.W{Hi: 2}},
		{all, api.W{Lo: top}, api.W{Lo: top}},
		{all, api.W{Hi: 1, Lo: 1}, api.W{Hi: 1, Lo: 1}},
		{all, api.W{Hi: top, Lo: top - 1}, api.W{Lo: 1}},
		{all, all, all},
	} {
		if got := Gcd(c.a, c.b); got != c.want {
			t.Errorf("Gcd(%v, %v) = %v; want %v", c.a, c.b, got, c.want)
		}
	}
}

// P2.2
func TestLowestEdges(t *testing.T) {
	for _, c := range []struct{ a, b, x, y api.W }{
		{api.W{}, api.W{Lo: 5}, api.W{}, api.W{Lo: 1}},
		{api.W{}, all, api.W{}, api.W{Lo: 1}},
		{api.W{Lo: 12}, api.W{Lo: 18}, api.W{Lo: 2}, api.W{Lo: 3}},
		{api.W{Lo: 18}, api.W{Lo: 12}, api.W{Lo: 3}, api.W{Lo: 2}},
		{api.W{Lo: 3}, api.W{Lo: 2}, api.W{Lo: 3}, api.W{Lo: 2}},
		{api.W{Lo: top}, api.W{Hi: 1}, api.W{Lo: top}, api.W{Hi: 1}},
		{api.W{Hi: 6}, api.W{Hi: 4}, api.W{Lo: 3}, api.W{Lo: 2}},
		{all, api.W{Lo: top}, api.W{Hi: 1, Lo: 1}, api.W{Lo: 1}},
		{api.W{Lo: top}, all, api.W{Lo: 1}, api.W{Hi: 1, Lo: 1}},
		{all, api.W{Lo: 1}, all, api.W{Lo: 1}},
		{all, all, api.W{Lo: 1}, api.W{Lo: 1}},
	} {
		if x, y, err := Lowest(c.a, c.b); x != c.x || y != c.y || err != api.OK {
			t.Errorf("Lowest(%v, %v) = %v, %v, %v; want %v, %v", c.a, c.b, x, y, err, c.x, c.y)
		}
	}
}

// P2.3
func TestPartsAreTheWhole(t *testing.T) {
	for _, a := range samples() {
		for _, b := range samples() {
			if b == (api.W{}) {
				continue
			}
			often, left, _ := Div(a, b)
			product, over := wide.Times(often, b)
			sum, round := wide.Add(product, left)
			if sum != a || over || round || !wide.Less(left, b) {
				t.Errorf("Div(%v, %v) = %v, %v, which are %v together", a, b, often, left, sum)
			}
		}
	}
}

// divides is whether d goes into a without anything left.
func divides(d, a api.W) bool {
	_, left, err := Div(a, d)
	return left == (api.W{}) && err == api.OK
}

// P2.3
func TestGcdDividesBoth(t *testing.T) {
	for _, a := range samples() {
		for _, b := range samples() {
			if a == (api.W{}) && b == (api.W{}) {
				continue
			}
			if g := Gcd(a, b); !divides(g, a) || !divides(g, b) {
				t.Errorf("Gcd(%v, %v) = %v, which does not divide both", a, b, g)
			}
		}
	}
}

// P2.3
func TestWhatDividesBothDividesGcd(t *testing.T) {
	factors := []api.W{{Lo: 1}, {Lo: 2}, {Lo: 3}, {Lo: 60}, {Lo: 1 << 32}, {Lo: top}, {Hi: 1}, {Hi: 1, Lo: 1}, {Hi: 3, Lo: 8}}
	found := 0
	for _, d := range factors {
		for _, m := range ordinary(60) {
			for _, n := range ordinary(60) {
				a, over := wide.Times(d, m)
				b, too := wide.Times(d, n)
				if over || too || a == (api.W{}) && b == (api.W{}) {
					continue
				}
				found++
				if g := Gcd(a, b); !divides(d, g) {
					t.Errorf("Gcd(%v, %v) = %v; %v divides both, but not it", a, b, g, d)
				}
			}
		}
	}
	if found < 1000 {
		t.Errorf("%d pairs were looked at", found)
	}
	for a := uint64(1); a <= 40; a++ {
		for b := uint64(1); b <= 40; b++ {
			g := Gcd(api.W{Lo: a}, api.W{Lo: b})
			for d := uint64(1); d <= 40; d++ {
				if a%d == 0 && b%d == 0 && !divides(api.W{Lo: d}, g) {
					t.Errorf("Gcd(%d, %d) = %v; %d divides both, but not it", a, b, g, d)
				}
			}
		}
	}
}

// R1: the same arguments lead to the same answers, whatever was asked between.
func TestNothingIsKept(t *testing.T) {
	a, b := api.W{Hi: 7, Lo: 3}, api.W{Hi: 2, Lo: 12}
	often, left, err := Div(a, b)
	greatest := Gcd(a, b)
	x, y, why := Lowest(a, b)
	Div(a, api.W{})
	Gcd(all, b)
	Lowest(b, api.W{})
	if o, l, e := Div(a, b); o != often || l != left || e != err {
		t.Errorf("Div(%v, %v) = %v, %v, %v; before %v, %v, %v", a, b, o, l, e, often, left, err)
	}
	if g := Gcd(a, b); g != greatest {
		t.Errorf("Gcd(%v, %v) = %v; before %v", a, b, g, greatest)
	}
	if p, q, e := Lowest(a, b); p != x || q != y || e != why {
		t.Errorf("Lowest(%v, %v) = %v, %v, %v; before %v, %v, %v", a, b, p, q, e, x, y, why)
	}
}
