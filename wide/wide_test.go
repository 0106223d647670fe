package wide

import (
	"math/big"
	"testing"

	"datum/api"
)

const top = 1<<64 - 1

// round is 2^128, where wide numbers go round.
var round = new(big.Int).Lsh(big.NewInt(1), 128)

func word(x uint64) *big.Int { return new(big.Int).SetUint64(x) }

func value(a api.W) *big.Int {
	v := new(big.Int).Lsh(word(a.Hi), 64)
	return v.Add(v, word(a.Lo))
}

// edgeWords are words at and beside where a half, or a half's half, is full.
func edgeWords() []uint64 {
	return []uint64{0, 1, 2, 9, 10, 1<<32 - 1, 1 << 32, 1<<63 - 1, 1 << 63, 10000000000000000000, top - 1, top}
}

// edges are all wide numbers of two edge words.
func edges() []api.W {
	var l []api.W
	for _, hi := range edgeWords() {
		for _, lo := range edgeWords() {
			l = append(l, api.W{Hi: hi, Lo: lo})
		}
	}
	return l
}

// ordinary are n wide numbers of many sizes, the same ones each time.
func ordinary(n int) []api.W {
	state := uint64(1)
	next := func() uint64 {
		state = state*6364136223846793005 + 1442695040888963407
		return state ^ state>>29
	}
	var l []api.W
	for i := range n {
		hi, lo := next(), next()
		switch i % 3 {
		case 0:
			hi, lo = 0, lo>>(i%64)
		case 1:
			hi >>= i % 64
		}
		l = append(l, api.W{Hi: hi, Lo: lo})
	}
	return l
}

func samples() []api.W { return append(edges(), ordinary(120)...) }

// check holds an answer against the number that it stands for, of which it tells what is left modulo 2^128, and whether it lies beyond 0 to 2^128 - 1.
func check(t *testing.T, call string, a, b, got api.W, gone bool, exact *big.Int) {
	t.Helper()
	left := new(big.Int).Mod(exact, round)
	if value(got).Cmp(left) != 0 || gone != (left.Cmp(exact) != 0) {
		t.Errorf("%s(%v, %v) = %v, %v; the number is %v", call, a, b, got, gone, exact)
	}
}

// P1.1
func TestAdd(t *testing.T) {
	for _, a := range samples() {
		for _, b := range samples() {
			sum, over := Add(a, b)
			check(t, "Add", a, b, sum, over, new(big.Int).Add(value(a), value(b)))
		}
	}
}

// P1.1
func TestAddEdges(t *testing.T) {
	for _, c := range []struct {
		a, b, sum api.W
		over      bool
	}{
		{api.W{}, api.W{}, api.W{}, false},
		{api.W{Lo: 2}, api.W{Lo: 3}, api.W{Lo: 5}, false},
		{api.W{Lo: top}, api.W{}, api.W{Lo: top}, false},
		{api.W{Lo: top}, api.W{Lo: 1}, api.W{Hi: 1}, false},
		{api.W{Hi: 1}, api.W{Lo: top}, api.W{Hi: 1, Lo: top}, false},
		{api.W{Hi: top}, api.W{Lo: top}, api.W{Hi: top, Lo: top}, false},
		{api.W{Hi: top, Lo: top}, api.W{}, api.W{Hi: top, Lo: top}, false},
		{api.W{Hi: top, Lo: top}, api.W{Lo: 1}, api.W{}, true},
		{api.W{Hi: 1 << 63}, api.W{Hi: 1 << 63}, api.W{}, true},
		{api.W{Hi: top, Lo: top}, api.W{Hi: top, Lo: top}, api.W{Hi: top, Lo: top - 1}, true},
	} {
		if sum, over := Add(c.a, c.b); sum != c.sum || over != c.over {
			t.Errorf("Add(%v, %v) = %v, %v; want %v, %v", c.a, c.b, sum, over, c.sum, c.over)
		}
	}
}

// P1.1
func TestSub(t *testing.T) {
	for _, a := range samples() {
		for _, b := range samples() {
			rest, below := Sub(a, b)
			check(t, "Sub", a, b, rest, below, new(big.Int).Sub(value(a), value(b)))
		}
	}
}

// P1.1
func TestSubEdges(t *testing.T) {
	for _, c := range []struct {
		a, b, rest api.W
		below      bool
	}{
		{api.W{}, api.W{}, api.W{}, false},
		{api.W{Lo: 5}, api.W{Lo: 3}, api.W{Lo: 2}, false},
		{api.W{}, api.W{Lo: 1}, api.W{Hi: top, Lo: top}, true},
		{api.W{}, api.W{Hi: top, Lo: top}, api.W{Lo: 1}, true},
		{api.W{Hi: 1}, api.W{Lo: 1}, api.W{Lo: top}, false},
		{api.W{Hi: 1}, api.W{Lo: top}, api.W{Lo: 1}, false},
		{api.W{Lo: top}, api.W{Hi: 1}, api.W{Hi: top, Lo: top}, true},
		{api.W{Hi: 1}, api.W{Hi: 1, Lo: 1}, api.W{Hi: top, Lo: top}, true},
		{api.W{Hi: top, Lo: top}, api.W{Hi: top, Lo: top}, api.W{}, false},
	} {
		if rest, below := Sub(c.a, c.b); rest != c.rest || below != c.below {
			t.Errorf("Sub(%v, %v) = %v, %v; want %v, %v", c.a, c.b, rest, below, c.rest, c.below)
		}
	}
}

// P1.1
func TestLess(t *testing.T) {
	for _, a := range samples() {
		for _, b := range samples() {
			if got, want := Less(a, b), value(a).Cmp(value(b)) < 0; got != want {
				t.Errorf("Less(%v, %v) = %v", a, b, got)
			}
		}
	}
}

// P1.1
func TestLessEdges(t *testing.T) {
	rising := []api.W{{}, {Lo: 1}, {Lo: top}, {Hi: 1}, {Hi: 1, Lo: top}, {Hi: 2}, {Hi: top, Lo: top}}
	for i, a := range rising {
		for k, b := range rising {
			if got := Less(a, b); got != (i < k) {
				t.Errorf("Less(%v, %v) = %v", a, b, got)
			}
		}
	}
}

// P1.2
func TestMul(t *testing.T) {
	words := edgeWords()
	for _, a := range ordinary(120) {
		words = append(words, a.Lo)
	}
	for _, x := range words {
		for _, y := range words {
			if got, want := Mul(x, y), new(big.Int).Mul(word(x), word(y)); value(got).Cmp(want) != 0 {
				t.Errorf("Mul(%d, %d) = %v; the number is %v", x, y, got, want)
			}
		}
	}
}

// P1.2
func TestMulEdges(t *testing.T) {
	for _, c := range []struct {
		x, y uint64
		want api.W
	}{
		{0, top, api.W{}},
		{6, 7, api.W{Lo: 42}},
		{1, top, api.W{Lo: top}},
		{1 << 32, 1 << 32, api.W{Hi: 1}},
		{1 << 63, 4, api.W{Hi: 2}},
		{top, top, api.W{Hi: top - 1, Lo: 1}},
	} {
		if got := Mul(c.x, c.y); got != c.want {
			t.Errorf("Mul(%d, %d) = %v; want %v", c.x, c.y, got, c.want)
		}
	}
}

// P1.2
func TestTimes(t *testing.T) {
	for _, a := range samples() {
		for _, b := range samples() {
			product, over := Times(a, b)
			check(t, "Times", a, b, product, over, new(big.Int).Mul(value(a), value(b)))
		}
	}
}

// P1.2
func TestTimesEdges(t *testing.T) {
	all := api.W{Hi: top, Lo: top}
	for _, c := range []struct {
		a, b, product api.W
		over          bool
	}{
		{api.W{}, all, api.W{}, false},
		{api.W{Lo: 6}, api.W{Lo: 7}, api.W{Lo: 42}, false},
		{api.W{Lo: 1}, all, all, false},
		{api.W{Lo: top}, api.W{Lo: top}, api.W{Hi: top - 1, Lo: 1}, false},
		// 2^64 - 1 times 2^64 + 1 is just below where it goes round.
		{api.W{Lo: top}, api.W{Hi: 1, Lo: 1}, all, false},
		{api.W{Hi: 1}, api.W{Lo: top}, api.W{Hi: top}, false},
		{api.W{Hi: 1}, api.W{Hi: 1}, api.W{}, true},
		{api.W{Hi: 1 << 63}, api.W{Lo: 2}, api.W{}, true},
		{all, api.W{Lo: 2}, api.W{Hi: top, Lo: top - 1}, true},
		// Both partial products fit: it is their sum that goes round.
		{api.W{Hi: 1, Lo: 2}, api.W{Lo: top}, api.W{Lo: top - 1}, true},
		{all, all, api.W{Lo: 1}, true},
	} {
		if product, over := Times(c.a, c.b); product != c.product || over != c.over {
			t.Errorf("Times(%v, %v) = %v, %v; want %v, %v", c.a, c.b, product, over, c.product, c.over)
		}
	}
}

// P1.3
func TestText(t *testing.T) {
	for _, a := range samples() {
		if got, want := Text(a), value(a).String(); got != want {
			t.Errorf("Text(%v) = %q; want %q", a, got, want)
		}
	}
	for ten := big.NewInt(1); ten.Cmp(round) < 0; ten.Mul(ten, big.NewInt(10)) {
		at := api.W{Hi: new(big.Int).Rsh(ten, 64).Uint64(), Lo: new(big.Int).And(ten, word(top)).Uint64()}
		below, _ := Sub(at, api.W{Lo: 1})
		for _, a := range []api.W{below, at} {
			if got, want := Text(a), value(a).String(); got != want {
				t.Errorf("Text(%v) = %q; want %q", a, got, want)
			}
		}
	}
}

// P1.3
func TestTextEdges(t *testing.T) {
	for _, c := range []struct {
		a    api.W
		want string
	}{
		{api.W{}, "0"},
		{api.W{Lo: 7}, "7"},
		{api.W{Lo: 10}, "10"},
		{api.W{Lo: 1050}, "1050"},
		{api.W{Lo: top}, "18446744073709551615"},
		{api.W{Hi: 1}, "18446744073709551616"},
		{api.W{Hi: 1, Lo: 1}, "18446744073709551617"},
		{api.W{Hi: top, Lo: top}, "340282366920938463463374607431768211455"},
	} {
		if got := Text(c.a); got != c.want {
			t.Errorf("Text(%v) = %q; want %q", c.a, got, c.want)
		}
	}
}

// P1.4
func TestAddedAndTakenAwayAgain(t *testing.T) {
	for _, a := range samples() {
		for _, b := range samples() {
			sum, over := Add(a, b)
			if back, below := Sub(sum, b); back != a || below != over {
				t.Errorf("Sub(Add(%v, %v), %v) = %v, %v", a, b, b, back, below)
			}
			rest, below := Sub(a, b)
			if back, over := Add(rest, b); back != a || over != below {
				t.Errorf("Add(Sub(%v, %v), %v) = %v, %v", a, b, b, back, over)
			}
		}
	}
}

// P1.4
func TestOrderOfFactors(t *testing.T) {
	for _, a := range samples() {
		for _, b := range samples() {
			ab, over := Times(a, b)
			if ba, too := Times(b, a); ba != ab || too != over {
				t.Errorf("Times(%v, %v) = %v, %v; the other way %v, %v", a, b, ab, over, ba, too)
			}
		}
	}
	for _, x := range edgeWords() {
		for _, y := range edgeWords() {
			xy := Mul(x, y)
			if yx := Mul(y, x); yx != xy {
				t.Errorf("Mul(%d, %d) = %v; the other way %v", x, y, xy, yx)
			}
			if p, over := Times(api.W{Lo: x}, api.W{Lo: y}); p != xy || over {
				t.Errorf("Times of %d and %d is %v, %v; Mul is %v", x, y, p, over, xy)
			}
		}
	}
}

// P1.4
func TestProductIsSpreadOverSums(t *testing.T) {
	few := append([]api.W{{}, {Lo: 1}, {Lo: top}, {Hi: 1}, {Hi: 1 << 63}, {Hi: top, Lo: top}}, ordinary(40)...)
	for _, a := range few {
		for _, b := range few {
			for _, c := range few {
				sum, _ := Add(b, c)
				whole, _ := Times(a, sum)
				ab, _ := Times(a, b)
				ac, _ := Times(a, c)
				if parts, _ := Add(ab, ac); parts != whole {
					t.Errorf("%v times %v and %v together is %v; by parts %v", a, b, c, whole, parts)
				}
			}
		}
	}
}
