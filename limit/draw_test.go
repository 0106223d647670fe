package limit

import (
	"math/big"
	"math/rand"
	"testing"

	"datum/api"
)

// part is from x, divided by den and rounded down, to y, divided by den and rounded up.
func part(x, y *big.Int, den int) api.Span {
	by := big.NewInt(int64(den))
	// Div rounds down where the divisor is above 0; what is rounded up is, with the other sign, rounded down of the other number.
	low := new(big.Int).Div(x, by)
	high := new(big.Int).Neg(y)
	high.Neg(high.Div(high, by))
	if !low.IsInt64() || !high.IsInt64() {
		panic("a line that is no int")
	}
	return api.Span{Lo: int(low.Int64()), Hi: int(high.Int64())}
}

// roots are the root of 9 times the variance times the scale squared, rounded down and up.
func roots(v api.W, scale int) (*big.Int, *big.Int) {
	square := product(9, scale, scale)
	square.Mul(square, bigOf(v))
	down := new(big.Int).Sqrt(square)
	up := new(big.Int).Set(down)
	if new(big.Int).Mul(up, up).Cmp(square) < 0 {
		up.Add(up, big.NewInt(1))
	}
	return down, up
}

// reckonedLines is where the lines of a point are, found apart from the program.
func reckonedLines(p api.Point, scale int) api.Lines {
	down, up := roots(p.Var, scale)
	middle, value := product(p.Center, scale), product(p.Center+p.Dev, scale)
	more := func(far *big.Int) *big.Int { return new(big.Int).Add(middle, far) }
	less := func(far *big.Int) *big.Int { return new(big.Int).Sub(middle, far) }
	return api.Lines{
		Low:   part(less(up), less(down), p.Den),
		Mid:   part(middle, middle, p.Den),
		High:  part(more(down), more(up), p.Den),
		Value: part(value, value, p.Den),
	}
}

// reckonedDraw is what Draw is to tell, found apart from the program.
func reckonedDraw(p api.Point, scale int) (api.Lines, api.Errno) {
	if !mayBe(p) {
		return api.Lines{}, api.ErrArg
	}
	if scale < 1 || scale > 1000 {
		return api.Lines{}, api.ErrRange
	}
	return reckonedLines(p, scale), api.OK
}

// checkDraw holds Draw's answer against what is wanted.
func checkDraw(t *testing.T, p api.Point, scale int, want api.Lines, why api.Errno) {
	t.Helper()
	if got, told := Draw(p, scale); got != want || told != why {
		t.Errorf("Draw(%v, %d) = %v, %d; want %v, %d", p, scale, got, told, want, why)
	}
}

// checkDraws holds Draw's answer against what is reckoned.
func checkDraws(t *testing.T, p api.Point, scale int) {
	t.Helper()
	want, why := reckonedDraw(p, scale)
	checkDraw(t, p, scale, want, why)
}

// drawnNumber is a number from 0 to most, drawn, of any length.
func drawnNumber(draw *rand.Rand, most int) int {
	return draw.Intn(most+1) >> draw.Intn(48)
}

// drawnSign is 1 or -1, drawn.
func drawnSign(draw *rand.Rand) int { return 1 - 2*draw.Intn(2) }

// drawnPoint is a point that may be, drawn: its numbers are of any length, and its variance is a square now and then.
func drawnPoint(draw *rand.Rand) api.Point {
	v := new(big.Int).Rand(draw, new(big.Int).Lsh(big.NewInt(1), uint(draw.Intn(103))))
	if draw.Intn(3) == 0 {
		v.Sqrt(v)
		v.Mul(v, v)
	}
	return api.Point{
		Den:    1 + drawnNumber(draw, farthest-1),
		Center: drawnSign(draw) * drawnNumber(draw, farthest),
		Dev:    drawnSign(draw) * drawnNumber(draw, farthest),
		Var:    wideOf(v),
	}
}

// at is the span of one number.
func at(x int) api.Span { return api.Span{Lo: x, Hi: x} }

// The chapter's examples: lines that are told as one number, and such as lie between two.
func TestExamples(t *testing.T) {
	p := api.Point{Center: 5, Den: 1, Dev: 7, Var: api.W{Lo: 4}}
	l := api.Lines{Low: at(-10), Mid: at(50), High: at(110), Value: at(120)}
	checkDraw(t, p, 10, l, api.OK)
	checkVerdict(t, l, out, api.OK)
	p = api.Point{Center: 5, Den: 3, Dev: 0, Var: api.W{Lo: 2}}
	l = api.Lines{Low: api.Span{Lo: 2, Hi: 3}, Mid: api.Span{Lo: 16, Hi: 17}, High: api.Span{Lo: 30, Hi: 31}, Value: api.Span{Lo: 16, Hi: 17}}
	checkDraw(t, p, 10, l, api.OK)
	checkVerdict(t, l, in, api.OK)
}

// P17.1: lines by hand: of numbers above 0 and below, divided without and with something left, of a root that is a whole number and of one that is not, and of none.
func TestDrawByHand(t *testing.T) {
	// The root of 1800 lies between 42 and 43.
	checkDraw(t, api.Point{Center: -5, Den: 3, Dev: -1, Var: api.W{Lo: 2}}, 10,
		api.Lines{Low: api.Span{Lo: -31, Hi: -30}, Mid: api.Span{Lo: -17, Hi: -16}, High: api.Span{Lo: -3, Hi: -2}, Value: at(-20)}, api.OK)
	checkDraw(t, api.Point{Center: 5, Den: 1, Dev: -6, Var: api.W{Lo: 2}}, 10,
		api.Lines{Low: api.Span{Lo: 7, Hi: 8}, Mid: at(50), High: api.Span{Lo: 92, Hi: 93}, Value: at(-10)}, api.OK)
	checkDraw(t, api.Point{Center: 7, Den: 2, Dev: -3}, 1,
		api.Lines{Low: api.Span{Lo: 3, Hi: 4}, Mid: api.Span{Lo: 3, Hi: 4}, High: api.Span{Lo: 3, Hi: 4}, Value: at(2)}, api.OK)
	checkDraw(t, api.Point{Center: -7, Den: 2, Dev: 10}, 1,
		api.Lines{Low: api.Span{Lo: -4, Hi: -3}, Mid: api.Span{Lo: -4, Hi: -3}, High: api.Span{Lo: -4, Hi: -3}, Value: api.Span{Lo: 1, Hi: 2}}, api.OK)
	checkDraw(t, api.Point{Center: 6, Den: 3, Dev: 3, Var: api.W{Lo: 9}}, 1,
		api.Lines{Low: at(-1), Mid: at(2), High: at(5), Value: at(3)}, api.OK)
	checkDraw(t, api.Point{Den: 1}, 1000, api.Lines{}, api.OK)
	checkDraw(t, api.Point{Den: farthest}, 1, api.Lines{}, api.OK)
}

// P17.1: lines by hand, of points at the ends of their fields.
func TestDrawByHandAtEnds(t *testing.T) {
	top := api.W{Hi: 1<<38 - 1, Lo: fullWord}
	// 9 times 10^6 times 2^102 less 1 lies right below the square of 3000 times 2^51.
	far := 3000 << 51
	center := 1000 * farthest
	checkDraw(t, api.Point{Center: farthest, Den: 1, Dev: farthest, Var: top}, 1000,
		api.Lines{Low: api.Span{Lo: center - far, Hi: center - far + 1}, Mid: at(center), High: api.Span{Lo: center + far - 1, Hi: center + far}, Value: at(2 * center)}, api.OK)
	checkDraw(t, api.Point{Center: -farthest, Den: 1, Dev: -farthest, Var: top}, 1000,
		api.Lines{Low: api.Span{Lo: -center - far, Hi: -center - far + 1}, Mid: at(-center), High: api.Span{Lo: far - center - 1, Hi: far - center}, Value: at(-2 * center)}, api.OK)
	checkDraw(t, api.Point{Center: farthest, Den: farthest, Dev: -farthest, Var: api.W{Lo: 1}}, 1,
		api.Lines{Low: api.Span{Lo: 0, Hi: 1}, Mid: at(1), High: api.Span{Lo: 1, Hi: 2}, Value: at(0)}, api.OK)
	checkDraw(t, api.Point{Center: -1, Den: farthest, Dev: 2, Var: api.W{Lo: 1}}, 1,
		api.Lines{Low: api.Span{Lo: -1, Hi: 0}, Mid: api.Span{Lo: -1, Hi: 0}, High: api.Span{Lo: 0, Hi: 1}, Value: api.Span{Lo: 0, Hi: 1}}, api.OK)
}

// P17.1: of a point that may not be Draw tells ErrArg, with the zero lines beside it, also where the scale is none too.
func TestDrawOfPointsThatMayNotBe(t *testing.T) {
	for _, p := range wrongPoints() {
		for _, scale := range append(scales(), wrongScales()...) {
			checkDraw(t, p, scale, api.Lines{}, api.ErrArg)
		}
	}
}

// P17.1: the scale is 1 to 1000; of any other Draw tells ErrRange, with the zero lines beside it.
func TestDrawScales(t *testing.T) {
	for _, p := range somePoints() {
		for _, scale := range wrongScales() {
			checkDraw(t, p, scale, api.Lines{}, api.ErrRange)
		}
		for scale := -3; scale <= 1003; scale++ {
			checkDraws(t, p, scale)
			if _, why := Draw(p, scale); (why == api.OK) != (1 <= scale && scale <= 1000) {
				t.Errorf("Draw(%v, %d) tells %d", p, scale, why)
			}
		}
	}
}

// P17.1: lines of points at the ends of all fields, in each combination, by scales at both ends and between.
func TestDrawAtEnds(t *testing.T) {
	for _, p := range rightPoints() {
		for _, scale := range scales() {
			checkDraws(t, p, scale)
		}
	}
}

// P17.1: lines of all small points, with small variances, of which some are squares.
func TestDrawOfSmallPoints(t *testing.T) {
	for den := 1; den <= 5; den++ {
		for center := -6; center <= 6; center++ {
			for dev := -6; dev <= 6; dev++ {
				for v := range uint64(11) {
					for _, scale := range []int{1, 2, 3, 10} {
						checkDraws(t, api.Point{Den: den, Center: center, Dev: dev, Var: api.W{Lo: v}}, scale)
					}
				}
			}
		}
	}
}

// P17.1: lines of drawn points, by drawn scales.
func TestDrawDrawn(t *testing.T) {
	draw := rand.New(rand.NewSource(2))
	for range 30000 {
		checkDraws(t, drawnPoint(draw), 1+draw.Intn(1000))
	}
}

// P17.1: where the root is a whole number, and everything can be divided, each line is one number; where there is no spread, all three are one line.
func TestDrawExact(t *testing.T) {
	draw := rand.New(rand.NewSource(3))
	for range 5000 {
		den, scale := 1+draw.Intn(1000000), 1+draw.Intn(1000)
		center, dev, far := draw.Intn(1000000)-500000, draw.Intn(1000000)-500000, draw.Intn(1000000)
		p := api.Point{Den: den, Center: center * den, Dev: dev * den, Var: wideOf(product(far, den, far, den))}
		checkDraw(t, p, scale, api.Lines{Low: at((center - 3*far) * scale), Mid: at(center * scale), High: at((center + 3*far) * scale), Value: at((center + dev) * scale)}, api.OK)
		flat := drawnPoint(draw)
		flat.Var = api.W{}
		if l, why := Draw(flat, scale); why != api.OK || l.Low != l.Mid || l.High != l.Mid {
			t.Errorf("Draw(%v, %d) = %v, %d", flat, scale, l, why)
		}
	}
}

// P17.4: lines, and the value, are at most three wide, and in order.
func TestLinesAreNarrow(t *testing.T) {
	draw := rand.New(rand.NewSource(4))
	points := rightPoints()
	for range 20000 {
		points = append(points, drawnPoint(draw))
	}
	for _, p := range points {
		scale := 1 + draw.Intn(1000)
		l, why := Draw(p, scale)
		for _, s := range []api.Span{l.Low, l.Mid, l.High, l.Value} {
			if why != api.OK || s.Hi < s.Lo || s.Hi-s.Lo > 3 {
				t.Errorf("Draw(%v, %d) = %v, %d", p, scale, l, why)
			}
		}
		if l.Mid.Lo < l.Low.Lo || l.Mid.Hi < l.Low.Hi || l.High.Lo < l.Mid.Lo || l.High.Hi < l.Mid.Hi {
			t.Errorf("Draw(%v, %d) = %v: the lines are not in order", p, scale, l)
		}
	}
}
