package limit

import (
	"math/big"
	"math/rand"
	"sync"
	"testing"

	"datum/api"
	"datum/zone"
)

// classOf is the class of a deviation, as the words of chapter 13 say it.
func classOf(dev int, v api.W) int {
	if dev == 0 {
		return 0
	}
	square, far := product(dev, dev), 1
	for i := int64(1); i <= 3; i++ {
		if line := big.NewInt(i * i); line.Mul(line, bigOf(v)).Cmp(square) < 0 {
			far++
		}
	}
	if dev < 0 {
		return -far
	}
	return far
}

// masked is the mask that has all classes from low to high.
func masked(low, high int) int {
	mask := 0
	for c := low; c <= high; c++ {
		mask += 1 << (c + 4)
	}
	return mask
}

// partOf is Den divided by the scale, rounded up.
func partOf(den, scale int) int {
	whole := den / scale
	if whole*scale < den {
		whole++
	}
	return whole
}

// reckonedMask is what Mask is to tell, found apart from the program: the class rises with the deviation.
func reckonedMask(p api.Point, scale int) (int, api.Errno) {
	if !mayBe(p) {
		return 0, api.ErrArg
	}
	if scale < 1 || scale > 1000 {
		return 0, api.ErrRange
	}
	far := partOf(p.Den, scale)
	return masked(classOf(p.Dev-far, p.Var), classOf(p.Dev+far, p.Var)), api.OK
}

// checkMask holds Mask's answer against what is wanted.
func checkMask(t *testing.T, p api.Point, scale int, want int, why api.Errno) {
	t.Helper()
	if got, told := Mask(p, scale); got != want || told != why {
		t.Errorf("Mask(%v, %d) = %d, %d; want %d, %d", p, scale, got, told, want, why)
	}
}

// checkMasks holds Mask's answer against what is reckoned.
func checkMasks(t *testing.T, p api.Point, scale int) {
	t.Helper()
	want, why := reckonedMask(p, scale)
	checkMask(t, p, scale, want, why)
}

// nearPoint is a point, drawn, that lies near one of the lines 0 to 3, on either side of the middle, by a few parts of the scale.
func nearPoint(draw *rand.Rand, line, scale int) api.Point {
	far := drawnNumber(draw, farthest/8)
	v := product(far, far)
	v.Add(v, big.NewInt(int64(draw.Intn(3)*draw.Intn(far+1))))
	// Four parts of the scale are at most half of 10^14.
	den := 1 + drawnNumber(draw, min(farthest, scale*(farthest/8))-1)
	parts := draw.Intn(9) - 4
	dev := line*far + den*parts/scale + draw.Intn(5) - 2
	return api.Point{Den: den, Center: drawnSign(draw) * drawnNumber(draw, farthest), Dev: drawnSign(draw) * dev, Var: wideOf(v)}
}

// P17.3: masks by hand: of every class, on either side of the middle, of one class alone and of more.
func TestMaskByHand(t *testing.T) {
	four := api.W{Lo: 4}
	for _, c := range []struct {
		p           api.Point
		scale       int
		least, most int
	}{
		{api.Point{Den: 10, Dev: 0, Var: four}, 10, -1, 1},
		{api.Point{Den: 10, Dev: 1, Var: four}, 10, 0, 1},
		{api.Point{Den: 10, Dev: 2, Var: four}, 10, 1, 2},
		{api.Point{Den: 10, Dev: 3, Var: four}, 10, 1, 2},
		{api.Point{Den: 10, Dev: 4, Var: four}, 10, 2, 3},
		{api.Point{Den: 10, Dev: 6, Var: four}, 10, 3, 4},
		{api.Point{Den: 10, Dev: 7, Var: four}, 10, 3, 4},
		{api.Point{Den: 10, Dev: 8, Var: four}, 10, 4, 4},
		{api.Point{Den: 10, Dev: -1, Var: four}, 10, -1, 0},
		{api.Point{Den: 10, Dev: -4, Var: four}, 10, -3, -2},
		{api.Point{Den: 10, Dev: -7, Var: four}, 10, -4, -3},
		{api.Point{Den: 10, Dev: -8, Var: four}, 10, -4, -4},
		{api.Point{Den: 1, Dev: 50, Var: api.W{Lo: 10000}}, 10, 1, 1},
		{api.Point{Den: 1, Dev: 150, Var: api.W{Lo: 10000}}, 10, 2, 2},
		{api.Point{Den: 1, Dev: 250, Var: api.W{Lo: 10000}}, 10, 3, 3},
		{api.Point{Den: 1, Dev: -50, Var: api.W{Lo: 10000}}, 10, -1, -1},
		{api.Point{Den: 1, Dev: -150, Var: api.W{Lo: 10000}}, 10, -2, -2},
		{api.Point{Den: 1, Dev: -250, Var: api.W{Lo: 10000}}, 10, -3, -3},
		{api.Point{Den: 1, Dev: 0}, 10, -4, 4},
		{api.Point{Den: 1, Dev: 1}, 10, 0, 4},
		{api.Point{Den: 1, Dev: -1}, 1, -4, 0},
		{api.Point{Den: 1, Dev: 2}, 10, 4, 4},
		{api.Point{Den: 21, Dev: 3}, 10, 0, 4},
		{api.Point{Den: 20, Dev: 3}, 10, 4, 4},
		{api.Point{Den: 1, Dev: 0, Var: api.W{Lo: 1}}, 1000, -1, 1},
		{api.Point{Den: 1001, Dev: 0, Var: api.W{Lo: 1}}, 1000, -2, 2},
	} {
		checkMask(t, c.p, c.scale, masked(c.least, c.most), api.OK)
		checkMasks(t, c.p, c.scale)
	}
}

// P17.3: of a point that may not be Mask tells ErrArg, with 0 beside it, also where the scale is none too.
func TestMaskOfPointsThatMayNotBe(t *testing.T) {
	for _, p := range wrongPoints() {
		for _, scale := range append(scales(), wrongScales()...) {
			checkMask(t, p, scale, 0, api.ErrArg)
		}
	}
}

// P17.3: the scale is 1 to 1000; of any other Mask tells ErrRange, with 0 beside it.
func TestMaskScales(t *testing.T) {
	for _, p := range somePoints() {
		for _, scale := range wrongScales() {
			checkMask(t, p, scale, 0, api.ErrRange)
		}
		for scale := -3; scale <= 1003; scale++ {
			checkMasks(t, p, scale)
			if _, why := Mask(p, scale); (why == api.OK) != (1 <= scale && scale <= 1000) {
				t.Errorf("Mask(%v, %d) tells %d", p, scale, why)
			}
		}
	}
}

// P17.3: masks of points at the ends of all fields, in each combination, Var 0 and Dev 0 among them.
func TestMaskAtEnds(t *testing.T) {
	for _, p := range rightPoints() {
		for _, scale := range scales() {
			checkMasks(t, p, scale)
		}
	}
}

// P17.3: points right at each line between two classes, and a part of the scale and one beside it, on either side of the middle and of the line.
func TestMaskAtLines(t *testing.T) {
	for _, den := range []int{1, 9, 10, 11, 1000, farthest} {
		for _, scale := range scales() {
			far := partOf(den, scale)
			for _, spread := range []int{0, 1, 2, far, 3 * far, farthest / 7} {
				if spread > farthest/7 {
					continue
				}
				for line := -3; line <= 3; line++ {
					for _, beside := range []int{-far - 1, -far, -far + 1, -1, 0, 1, far - 1, far, far + 1} {
						p := api.Point{Den: den, Dev: line*spread + beside, Var: wideOf(product(spread, spread))}
						checkMasks(t, p, scale)
					}
				}
			}
		}
	}
}

// P17.3: points near a line have a mask of more than one class, points far from all of them one alone.
func TestMaskNearAndFar(t *testing.T) {
	for _, sign := range []int{-1, 1} {
		for line := 1; line <= 3; line++ {
			p := api.Point{Den: 100, Dev: sign * line * 1000, Var: wideOf(product(1000, 1000))}
			low, high := line, line+1
			if sign < 0 {
				low, high = -high, -low
			}
			for _, beside := range []int{-9, -1, 0, 1, 9, 10} {
				q := p
				q.Dev += sign * beside
				checkMask(t, q, 10, masked(low, high), api.OK)
			}
			before, behind := p, p
			before.Dev -= sign * 10
			behind.Dev += sign * 11
			checkMask(t, before, 10, masked(sign*line, sign*line), api.OK)
			checkMask(t, behind, 10, masked(sign*(line+1), sign*(line+1)), api.OK)
		}
	}
}

// P17.3: masks of drawn points, of any kind and near a line.
func TestMaskDrawn(t *testing.T) {
	draw := rand.New(rand.NewSource(5))
	for range 20000 {
		scale := 1 + draw.Intn(1000)
		checkMasks(t, drawnPoint(draw), scale)
		checkMasks(t, nearPoint(draw, draw.Intn(4), scale), scale)
	}
}

// P17.3: the mask hangs on neither the middle nor anything else but the deviation, the variance and the part.
func TestMaskWhereverTheMiddleIs(t *testing.T) {
	draw := rand.New(rand.NewSource(6))
	for range 3000 {
		scale := 1 + draw.Intn(1000)
		p := nearPoint(draw, draw.Intn(4), scale)
		mask, why := Mask(p, scale)
		for _, center := range []int{-farthest, -1, 0, 1, farthest} {
			p.Center = center
			checkMask(t, p, scale, mask, why)
		}
	}
}

// P17.4: the mask has the point's class, as zone tells it.
func TestMaskHasTheClass(t *testing.T) {
	draw := rand.New(rand.NewSource(7))
	points := rightPoints()
	for range 10000 {
		points = append(points, drawnPoint(draw), nearPoint(draw, draw.Intn(4), 10))
	}
	for _, p := range points {
		for _, scale := range []int{1, 10, 1000} {
			mask, why := Mask(p, scale)
			class, told := zone.Class(p.Dev, p.Var)
			if why != api.OK || told != api.OK || !zone.Has(mask, class) {
				t.Errorf("Mask(%v, %d) = %d, %d; the class is %d", p, scale, mask, why, class)
			}
		}
	}
}

// held is what a point is, without any root: how its deviation's square is beside 9 times its variance, and whether it is beyond its line, or within, by three parts of the scale and more.
func held(p api.Point, scale int) (beside int, beyond, within bool) {
	line := new(big.Int).Mul(big.NewInt(9), bigOf(p.Var))
	beside = product(p.Dev, p.Dev).Cmp(line)
	// All of it times the scale, so that three parts are three times Den.
	line.Mul(line, product(scale, scale))
	far, three := new(big.Int).Abs(product(p.Dev, scale)), product(3, p.Den)
	near := new(big.Int).Sub(far, three)
	beyond = near.Sign() >= 0 && new(big.Int).Mul(near, near).Cmp(line) >= 0
	more := new(big.Int).Add(far, three)
	within = new(big.Int).Mul(more, more).Cmp(line) <= 0
	return beside, beyond, within
}

// checkSure holds what the point's lines tell of it against what it is, and tells the verdict.
func checkSure(t *testing.T, p api.Point, scale int) int {
	t.Helper()
	l, why := Draw(p, scale)
	verdict, told := Verdict(l)
	if why != api.OK || told != api.OK {
		t.Fatalf("Draw(%v, %d) tells %d, its verdict %d", p, scale, why, told)
	}
	beside, beyond, within := held(p, scale)
	if verdict == out && beside <= 0 || verdict == in && beside > 0 {
		t.Errorf("%v by %d: verdict %d, beside its line %d", p, scale, verdict, beside)
	}
	if beyond && verdict != out || within && verdict != in {
		t.Errorf("%v by %d: verdict %d, beyond by three parts %t, within %t", p, scale, verdict, beyond, within)
	}
	return verdict
}

// P17.4, P3: out is never told of a value that is on its lines or between them, and in never of one beyond; by three parts of the scale and more, it is told which.
func TestOutIsOut(t *testing.T) {
	draw := rand.New(rand.NewSource(8))
	var told [3]int
	for range 60000 {
		scale := 1 + draw.Intn(1000)
		told[checkSure(t, nearPoint(draw, 3, scale), scale)]++
		checkSure(t, drawnPoint(draw), scale)
	}
	for verdict, often := range told {
		if often < 1000 {
			t.Errorf("verdict %d came %d times", verdict, often)
		}
	}
	for _, p := range rightPoints() {
		for _, scale := range []int{1, 10, 1000} {
			checkSure(t, p, scale)
		}
	}
}

// P17.4: all small points: with a value on a line, and beside it.
func TestOutIsOutOfSmallPoints(t *testing.T) {
	for den := 1; den <= 7; den++ {
		for _, scale := range []int{1, 2, 10, 1000} {
			for center := -3; center <= 3; center++ {
				for dev := -12; dev <= 12; dev++ {
					for v := range uint64(11) {
						checkSure(t, api.Point{Den: den, Center: center, Dev: dev, Var: api.W{Lo: v}}, scale)
					}
				}
			}
		}
	}
}

// P17.4: a value right on its line is never out, one right beyond it never in; where lines are whole numbers, the one is in and the other out.
func TestOnTheLine(t *testing.T) {
	draw := rand.New(rand.NewSource(9))
	for range 5000 {
		spread := draw.Intn(farthest / 4)
		for _, sign := range []int{-1, 1} {
			p := api.Point{Den: 1, Center: draw.Intn(farthest), Dev: sign * 3 * spread, Var: wideOf(product(spread, spread))}
			scale := 1 + draw.Intn(1000)
			if checkSure(t, p, scale) != in {
				t.Errorf("%v by %d is on its line, and not in", p, scale)
			}
			p.Dev += sign
			if checkSure(t, p, scale) != out {
				t.Errorf("%v by %d is beyond its line, and not out", p, scale)
			}
			p.Den = 1 + drawnNumber(draw, farthest-1)
			checkSure(t, p, scale)
			p.Dev -= sign
			checkSure(t, p, scale)
		}
	}
}

// questions are calls with their right answers, refused ones among them.
func questions() []func() bool {
	var l []func() bool
	draw := rand.New(rand.NewSource(10))
	none, no := wrongPoints(), wrongScales()
	for i := range 300 {
		scale := 1 + draw.Intn(1000)
		p := nearPoint(draw, draw.Intn(4), scale)
		wrong, beyond := none[i%len(none)], no[i%len(no)]
		lines := reckonedLines(p, scale)
		verdict, _ := reckonedVerdict(lines)
		mask, _ := reckonedMask(p, scale)
		broken := lines
		broken.Mid.Lo = broken.Mid.Hi + 1
		l = append(l, func() bool {
			got, why := Draw(p, scale)
			return got == lines && why == api.OK && Right(p) && !Right(wrong)
		}, func() bool {
			got, why := Verdict(lines)
			return got == verdict && why == api.OK
		}, func() bool {
			got, why := Mask(p, scale)
			return got == mask && why == api.OK
		}, func() bool {
			got, why := Draw(wrong, beyond)
			classes, told := Mask(wrong, scale)
			return got == api.Lines{} && why == api.ErrArg && classes == 0 && told == api.ErrArg
		}, func() bool {
			got, why := Draw(p, beyond)
			classes, told := Mask(p, beyond)
			return got == api.Lines{} && why == api.ErrRange && classes == 0 && told == api.ErrRange
		}, func() bool {
			got, why := Verdict(broken)
			return got == 0 && why == api.ErrArg
		})
	}
	return l
}

// R1: calls in any order, many times over, answer the same.
func TestCallsInAnyOrder(t *testing.T) {
	draw := rand.New(rand.NewSource(11))
	l := questions()
	for range 20 {
		for _, i := range draw.Perm(len(l)) {
			if !l[i]() {
				t.Fatalf("question %d has another answer", i)
			}
		}
	}
}

// R1: calls of several goroutines at once answer the same.
func TestCallsAtOnce(t *testing.T) {
	l := questions()
	var begun, ended sync.WaitGroup
	begun.Add(1)
	for g := range 16 {
		ended.Go(func() {
			begun.Wait()
			draw := rand.New(rand.NewSource(int64(g)))
			for range 10 {
				for _, i := range draw.Perm(len(l)) {
					if !l[i]() {
						t.Errorf("question %d has another answer in goroutine %d", i, g)
						return
					}
				}
			}
		})
	}
	begun.Done()
	ended.Wait()
}
