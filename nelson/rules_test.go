package nelson

import (
	"math/rand"
	"slices"
	"testing"

	"datum/api"
)

// bounds are rows of classes about a rule's line: some of which it just holds, and some of which it just does not. Those of the other side of the middle are tried with them.
type bounds struct {
	rule  int
	holds [][]int
	lacks [][]int
}

// last are the n newest, if there are as many.
func last(l []int, n int) ([]int, bool) {
	if len(l) < n {
		return nil, false
	}
	return l[len(l)-n:], true
}

// every is whether there are n classes, and all of the last n are such ones.
func every(l []int, n int, such func(c int) bool) bool {
	row, there := last(l, n)
	return there && count(row, such) == n
}

// count is how many are such ones.
func count(l []int, such func(c int) bool) int {
	n := 0
	for _, c := range l {
		if such(c) {
			n++
		}
	}
	return n
}

// rises is whether there are n classes, and each of the last n is above the one ahead.
func rises(l []int, n int) bool {
	row, there := last(l, n)
	for i := 1; i < len(row); i++ {
		there = there && row[i-1] < row[i]
	}
	return there
}

// turns is whether there are n classes, of whose last n each step goes up or down, and not the way of the one ahead.
func turns(l []int, n int) bool {
	row, there := last(l, n)
	for i := 1; i < len(row); i++ {
		there = there && row[i] != row[i-1]
		if i > 1 {
			there = there && (row[i] > row[i-1]) != (row[i-1] > row[i-2])
		}
	}
	return there
}

// some is whether there are n classes, and at least k of the last n are far or more, or at least k -far or less.
func some(l []int, n, k, far int) bool {
	row, there := last(l, n)
	above := count(row, func(c int) bool { return c >= far })
	below := count(row, func(c int) bool { return c <= -far })
	return there && (above >= k || below >= k)
}

// other are the classes of the other side of the middle.
func other(l []int) []int {
	var turned []int
	for _, c := range l {
		turned = append(turned, -c)
	}
	return turned
}

// lengths are how many points each rule looks at.
func lengths() [8]int { return [8]int{1, 9, 6, 14, 3, 5, 15, 8} }

// holdsOf is whether the rule holds of the classes, found apart from the program.
func holdsOf(rule int, l []int) bool {
	switch rule {
	case 1:
		return every(l, 1, func(c int) bool { return c == 4 || c == -4 })
	case 2:
		return every(l, 9, func(c int) bool { return c > 0 }) || every(l, 9, func(c int) bool { return c < 0 })
	case 3:
		return rises(l, 6) || rises(other(l), 6)
	case 4:
		return turns(l, 14)
	case 5:
		return some(l, 3, 2, 3)
	case 6:
		return some(l, 5, 4, 2)
	case 7:
		return every(l, 15, func(c int) bool { return c == -1 || c == 0 || c == 1 })
	}
	return every(l, 8, func(c int) bool { return c >= 2 || c <= -2 })
}

// reckoned is Exact's answer, found apart from the program.
func reckoned(l []int) ([8]bool, api.Errno) {
	var holds [8]bool
	if len(l) > 15 || count(l, func(c int) bool { return c < -4 || c > 4 }) > 0 {
		return holds, api.ErrArg
	}
	for i := range holds {
		holds[i] = holdsOf(i+1, l)
	}
	return holds, api.OK
}

// checkExact holds Exact's answer against what is wanted, and the classes against what they were.
func checkExact(t *testing.T, l []int, want [8]bool, why api.Errno) {
	t.Helper()
	was := slices.Clone(l)
	if got, told := Exact(l); got != want || told != why {
		t.Errorf("Exact(%v) = %v, %d; want %v, %d", was, got, told, want, why)
	}
	if !slices.Equal(l, was) {
		t.Errorf("Exact(%v) made that %v", was, l)
	}
}

// checkReckoned holds Exact's answer against a reckoning.
func checkReckoned(t *testing.T, l []int) {
	t.Helper()
	want, why := reckoned(l)
	checkExact(t, l, want, why)
}

// checkRule holds what one rule tells against what is wanted, on both sides of the middle.
func checkRule(t *testing.T, rule int, l []int, want bool) {
	t.Helper()
	for _, row := range [][]int{l, other(l)} {
		if got, why := Exact(row); got[rule-1] != want || why != api.OK {
			t.Errorf("Exact(%v) = %v, %d; want %t of rule %d", row, got, why, want, rule)
		}
		checkReckoned(t, row)
	}
}

// many are n times c.
func many(n, c int) []int { return slices.Repeat([]int{c}, n) }

// swing are n classes that are a and b by turns.
func swing(n, a, b int) []int { return slices.Repeat([]int{a, b}, n)[:n] }

// with is the row with c at a place.
func with(l []int, at, c int) []int {
	row := slices.Clone(l)
	row[at] = c
	return row
}

// atEach are the rows with c at each place.
func atEach(l []int, c int) [][]int {
	var rows [][]int
	for i := range l {
		rows = append(rows, with(l, i, c))
	}
	return rows
}

// rows are each rule's, by hand.
func rows() []bounds {
	return []bounds{
		{1, [][]int{{4}, {0, 4}, {4, 4}, {-4, 4}}, [][]int{{}, {3}, {0}, {1}, {2}, {4, 3}, {4, 0}, {4, -3}, {4, 4, 4, 2}}},
		{2, append([][]int{many(9, 1), many(9, 4), {1, 2, 3, 4, 1, 2, 3, 4, 1}, {0, 1, 1, 1, 1, 1, 1, 1, 1, 1}, {-1, 1, 1, 1, 1, 1, 1, 1, 1, 1}}, atEach(many(9, 1), 4)...),
			slices.Concat(atEach(many(9, 1), 0), atEach(many(9, 1), -1), atEach(many(9, 4), -4), [][]int{{}, {1}, many(8, 1), many(8, 4), many(9, 0), swing(9, 1, -1), {0, 1, 1, 1, 1, 1, 1, 1, 1}, {-1, -1, -1, -1, 1, 1, 1, 1, 1}, {1, 1, 1, 1, 1, 1, 1, 1, 1, 0}, {1, 1, 1, 1, 1, 1, 1, 1, 1, -1}})},
		{3, [][]int{{-4, -3, -2, -1, 0, 1}, {-1, 0, 1, 2, 3, 4}, {-4, -2, -1, 0, 3, 4}, {4, -1, 0, 1, 2, 3, 4}, {-1, -1, 0, 1, 2, 3, 4}, {-4, -3, -2, -1, 0, 1, 2, 3, 4}},
			[][]int{{}, {1}, {1, 2}, {0, 1, 2, 3, 4}, {-4, -3, -2, -1, 0}, {-2, -2, -1, 0, 1, 2}, {-2, -1, -1, 0, 1, 2}, {-2, -1, 0, 0, 1, 2}, {-2, -1, 0, 1, 1, 2}, {-2, -1, 0, 1, 2, 2}, {-1, -2, 0, 1, 2, 3}, {-2, 0, -1, 1, 2, 3}, {-2, -1, 1, 0, 2, 3}, {-2, -1, 0, 2, 1, 3}, {-2, -1, 0, 1, 3, 2}, {0, 1, 2, 3, 4, -4}, {4, 0, 1, 2, 3, 4}, {-3, -2, -1, 0, 1, 2, 2}, {-1, 0, 1, 2, 3, 4, 3}, {0, 1, 2, 2, 1, 0}, {0, 1, 2, 3, 2, 1}, many(6, 1)}},
		{4, [][]int{swing(14, 0, 1), swing(14, 1, 0), swing(14, 4, -4), swing(15, 2, 3), {0, 2, 1, 3, 2, 4, 0, 1, -1, 0, -4, -3, -4, 4}, {0, 0, 1, 0, 1, 0, 1, 0, 1, 0, 1, 0, 1, 0, 1}, {-1, 0, 1, 0, 1, 0, 1, 0, 1, 0, 1, 0, 1, 0, 1}},
			[][]int{{}, {1}, {0, 1}, swing(13, 0, 1), swing(13, 4, -4), many(14, 0), many(15, 3), with(swing(14, 0, 1), 0, 1), with(swing(14, 0, 1), 1, 0), with(swing(14, 0, 2), 6, 2), with(swing(14, 0, 2), 12, 2), with(swing(14, 0, 2), 13, 0),
				with(swing(14, 1, 2), 0, 3), with(swing(14, 1, 2), 7, 0), with(swing(14, 1, 2), 8, 3), with(swing(14, 1, 2), 13, 0), append(swing(14, 0, 1), 1), append(swing(14, 0, 1), 2), {0, 1, 0, 1, 0, 1, 0, 0, 1, 0, 1, 0, 1, 0}, {0, 1, 0, 1, 0, 1, 2, 1, 2, 1, 2, 1, 2, 1}}},
		{5, [][]int{{3, 3, 0}, {3, 0, 3}, {0, 3, 3}, {3, 3, 3}, {4, -4, 3}, {4, 3, -3}, {-4, 4, 4}, {2, 3, 4}, {4, 2, 4}, {0, 0, 0, 3, 3}, {-3, -3, 3, -3, 3}},
			[][]int{{}, {3}, {3, 3}, {4, 4}, {3, 0, 0}, {0, 3, 0}, {0, 0, 3}, {3, 2, 2}, {2, 4, 2}, {2, 2, 4}, {3, -3, 0}, {3, 0, -3}, {-3, 3, 2}, {4, -4, 2}, {2, 2, 2}, {3, 3, 0, 0}, {3, 3, 0, 2}, {4, 4, 4, -3, 0, 2}}},
		{6, slices.Concat(atEach(many(5, 2), -4), atEach(many(5, 4), 1), [][]int{many(5, 2), many(5, 4), {2, 3, 4, 2, 0}, {-3, 2, 4, 3, 2}, {0, 0, 0, 2, 2, 2, 2}}),
			slices.Concat(atEach([]int{2, 2, 2, 2, 1}, -2)[:4], atEach([]int{1, 4, 4, 4, 4}, 1)[1:], [][]int{{}, {2}, many(4, 2), many(4, 4), {2, 2, 2, 1, 1}, {2, 2, 2, -2, -2}, {-2, -2, 2, 2, 2}, {4, -4, 4, -4, 4}, {2, 1, 2, 1, 2}, many(5, 1), many(5, 0), {2, 2, 2, 2, 1, 1}})},
		{7, slices.Concat(atEach(many(15, 0), 1), atEach(many(15, 1), -1), [][]int{many(15, 0), many(15, 1), swing(15, 1, -1), {-1, 0, 1, 1, 0, -1, 0, 0, 1, -1, -1, 0, 1, 0, -1}}),
			slices.Concat(atEach(many(15, 0), 2), atEach(many(15, 1), -2), atEach(many(15, 1), 4), [][]int{{}, {0}, many(14, 0), many(14, 1), many(15, 2), swing(15, 0, 3)})},
		{8, slices.Concat(atEach(many(8, 2), -2), atEach(many(8, 4), -3), [][]int{many(8, 2), many(8, 3), many(8, 4), swing(8, 2, -2), swing(9, 3, -4), append([]int{0}, many(8, 2)...), append([]int{1}, swing(8, 2, -2)...)}),
			slices.Concat(atEach(many(8, 2), 1), atEach(many(8, 2), -1), atEach(swing(8, 2, -2), 0), [][]int{{}, {2}, many(7, 2), many(7, 4), many(8, 1), many(8, 0), append(many(8, 4), 1), append(swing(8, 2, -2), 0)})},
	}
}

// noClasses are numbers that are none: one beyond both ends, and further, to the ends of int.
func noClasses() []int {
	return []int{5, -5, 6, -6, 8, -8, 9, -9, 16, -16, 512, -512, 1<<32 - 4, 1 << 32, 1<<32 + 4, -1 << 32, greatest - 4, greatest - 1, greatest, least, least + 1, least + 4}
}

// drawnClass is a class that is drawn.
func drawnClass(draw *rand.Rand) int { return draw.Intn(9) - 4 }

// drawnFor are classes of which the rule holds, or nearly so.
func drawnFor(draw *rand.Rand, rule int) []int {
	n := lengths()[rule-1]
	l := make([]int, n)
	for i := range l {
		switch rule {
		case 1, 8:
			l[i] = (2 + draw.Intn(3)) * (1 - 2*draw.Intn(2))
		case 2:
			l[i] = 1 + draw.Intn(4)
		case 3:
			l[i] = i - 4 + draw.Intn(2)*3
		case 4:
			l[i] = drawnClass(draw)
			if i%2 == 1 {
				l[i] = min(4, l[i-1]+1+draw.Intn(3))
			} else if i > 0 {
				l[i] = max(-4, l[i-1]-1-draw.Intn(3))
			}
		case 5, 6:
			l[i] = 2 + draw.Intn(3)
		default:
			l[i] = draw.Intn(3) - 1
		}
	}
	if rule == 3 {
		slices.Sort(l)
	}
	return l
}

// drawnRow are classes that are drawn: a rule's, on either side, with others ahead, and often some that are changed.
func drawnRow(draw *rand.Rand) []int {
	l := drawnFor(draw, 1+draw.Intn(8))
	for len(l) < 15 && draw.Intn(3) > 0 {
		l = slices.Insert(l, 0, drawnClass(draw))
	}
	for range draw.Intn(3) {
		l[draw.Intn(len(l))] = drawnClass(draw)
	}
	if draw.Intn(2) == 0 {
		return other(l)
	}
	return l[draw.Intn(len(l)+1)/3:]
}

// P14.1, P14.2: the limits are the chapter's.
func TestLimits(t *testing.T) {
	if api.Window != 15 || api.Rules != 8 || api.RNo != 0 || api.RMaybe != 1 || api.RYes != 2 {
		t.Errorf("the limits are %d and %d, and what rules tell %d, %d, %d", api.Window, api.Rules, api.RNo, api.RMaybe, api.RYes)
	}
}

// P14.1: the chapter's example, and what is reckoned by hand of all rules.
func TestExactByHand(t *testing.T) {
	checkExact(t, []int{3, 0, 3}, [8]bool{4: true}, api.OK)
	checkExact(t, nil, [8]bool{}, api.OK)
	checkExact(t, []int{}, [8]bool{}, api.OK)
	checkExact(t, []int{-4}, [8]bool{0: true}, api.OK)
	checkExact(t, many(15, 4), [8]bool{0: true, 1: true, 4: true, 5: true, 7: true}, api.OK)
	checkExact(t, many(15, -3), [8]bool{1: true, 4: true, 5: true, 7: true}, api.OK)
	checkExact(t, many(15, 1), [8]bool{1: true, 6: true}, api.OK)
	checkExact(t, many(15, 0), [8]bool{6: true}, api.OK)
	checkExact(t, swing(15, -1, 0), [8]bool{3: true, 6: true}, api.OK)
	checkExact(t, swing(15, 4, -4), [8]bool{0: true, 3: true, 4: true, 7: true}, api.OK)
	checkExact(t, []int{-1, 0, 1, 2, 3, 4}, [8]bool{0: true, 2: true, 4: true}, api.OK)
	checkExact(t, []int{4, 3, 2, 1, 0, -1}, [8]bool{2: true}, api.OK)
	checkExact(t, []int{1, 2, 2, 2, 2}, [8]bool{5: true}, api.OK)
}

// P14.1: each rule where it just holds, and where it just does not.
func TestEachRule(t *testing.T) {
	for _, b := range rows() {
		for _, l := range b.holds {
			checkRule(t, b.rule, l, true)
		}
		for _, l := range b.lacks {
			checkRule(t, b.rule, l, false)
		}
	}
}

// P14.1: a rule that holds does so whatever is ahead of the points that it looks at, and of one point less it does not.
func TestPointsAhead(t *testing.T) {
	draw := rand.New(rand.NewSource(141))
	for _, b := range rows() {
		n := lengths()[b.rule-1]
		for _, l := range b.holds {
			row, _ := last(l, n)
			checkRule(t, b.rule, row[1:], false)
			for len(row) < 15 {
				row = slices.Insert(slices.Clone(row), 0, drawnClass(draw))
				checkRule(t, b.rule, row, true)
			}
		}
	}
}

// P14.1: each row where a rule just holds, with each other class at each place.
func TestOneOtherPoint(t *testing.T) {
	for _, b := range rows() {
		for _, l := range b.holds {
			for i := range l {
				for c := -4; c <= 4; c++ {
					checkReckoned(t, with(l, i, c))
				}
			}
		}
	}
}

// eachRow has all rows of n of the numbers.
func eachRow(n int, of []int, have func(l []int)) {
	l := make([]int, n)
	var fill func(i int)
	fill = func(i int) {
		if i == n {
			have(l)
			return
		}
		for _, c := range of {
			l[i] = c
			fill(i + 1)
		}
	}
	fill(0)
}

// P14.1: all rows of few classes, and of few different ones.
func TestSmallRows(t *testing.T) {
	for n := range 6 {
		eachRow(n, []int{-4, -3, -2, -1, 0, 1, 2, 3, 4}, func(l []int) { checkReckoned(t, l) })
	}
	for n := range 16 {
		eachRow(n, []int{0, 1}, func(l []int) { checkReckoned(t, l) })
	}
	for n := range 10 {
		eachRow(n, []int{-2, 1, 4}, func(l []int) { checkReckoned(t, l) })
	}
}

// P14.1: drawn rows, of 0 to 15 classes.
func TestExact(t *testing.T) {
	draw := rand.New(rand.NewSource(1411))
	for range 50000 {
		checkReckoned(t, drawnRow(draw))
	}
	for n := range 16 {
		for range 500 {
			l := make([]int, n)
			for i := range l {
				l[i] = drawnClass(draw)
			}
			checkReckoned(t, l)
		}
	}
}

// P14.1: 16 classes and more are too many, whatever they are.
func TestTooManyClasses(t *testing.T) {
	for _, n := range []int{16, 17, 30, 100, 1000} {
		for c := -4; c <= 4; c++ {
			checkExact(t, many(n, c), [8]bool{}, api.ErrArg)
			checkExact(t, swing(n, c, 0), [8]bool{}, api.ErrArg)
		}
		checkExact(t, many(n, 5), [8]bool{}, api.ErrArg)
		checkExact(t, many(n, least), [8]bool{}, api.ErrArg)
	}
}

// P14.1: a number that is no class is wrong at each place of each row.
func TestWrongClasses(t *testing.T) {
	draw := rand.New(rand.NewSource(1412))
	for _, c := range noClasses() {
		for n := 1; n <= 16; n++ {
			for i := range n {
				checkExact(t, with(many(n, 4), i, c), [8]bool{}, api.ErrArg)
				checkExact(t, with(many(n, drawnClass(draw)), i, c), [8]bool{}, api.ErrArg)
			}
			checkExact(t, many(n, c), [8]bool{}, api.ErrArg)
		}
	}
}
