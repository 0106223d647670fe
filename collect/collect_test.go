package collect

import (
	"math"
	"math/rand"
	"slices"
	"sync"
	"testing"

	"datum/api"
)

const (
	least    = math.MinInt
	greatest = math.MaxInt
	million  = 1000000
)

// groupOf is a group with samples.
func groupOf(size, low, high int, have ...int) api.Group {
	return api.Group{Size: size, Low: low, High: high, Have: have}
}

// holding is the group with other samples.
func holding(g api.Group, have []int) api.Group {
	g.Have = have
	return g
}

// sameGroup is whether both groups read alike; a nil list counts as an empty one.
func sameGroup(a, b api.Group) bool {
	return a.Size == b.Size && a.Low == b.Low && a.High == b.High && slices.Equal(a.Have, b.Have)
}

// sameRows is whether both read alike, row by row.
func sameRows(a, b [][]int) bool { return slices.EqualFunc(a, b, slices.Equal[[]int]) }

// checkNew holds New's answer against what is wanted.
func checkNew(t *testing.T, size, low, high int, want api.Group, why api.Errno) {
	t.Helper()
	if got, told := New(size, low, high); !sameGroup(got, want) || told != why {
		t.Errorf("New(%d, %d, %d) = %v, %d; want %v, %d", size, low, high, got, told, want, why)
	}
}

// checkAdd holds Add's answer against what is wanted.
func checkAdd(t *testing.T, g api.Group, x int, want api.Group, row []int, why api.Errno) {
	t.Helper()
	if got, full, told := Add(g, x); !sameGroup(got, want) || !slices.Equal(full, row) || told != why {
		t.Errorf("Add(%v, %d) = %v, %v, %d; want %v, %v, %d", g, x, got, full, told, want, row, why)
	}
}

// checkFlush holds Flush's answer against what is wanted.
func checkFlush(t *testing.T, g, want api.Group, there int, why api.Errno) {
	t.Helper()
	if got, n, told := Flush(g); !sameGroup(got, want) || n != there || told != why {
		t.Errorf("Flush(%v) = %v, %d, %d; want %v, %d, %d", g, got, n, told, want, there, why)
	}
}

// checkFeed holds Feed's answer against what is wanted.
func checkFeed(t *testing.T, g api.Group, l []int, want api.Group, rows [][]int, refused int, why api.Errno) {
	t.Helper()
	if got, full, n, told := Feed(g, l); !sameGroup(got, want) || !sameRows(full, rows) || n != refused || told != why {
		t.Errorf("Feed(%v, %v) = %v, %v, %d, %d; want %v, %v, %d, %d", g, l, got, full, n, told, want, rows, refused, why)
	}
}

// wrongSizes are sizes that no group has.
func wrongSizes() []int {
	return []int{0, 11, -1, -2, -10, 12, 20, 100, 1 << 31, 1 << 32, 1<<32 + 1, 1<<32 + 10, -1 << 32, 5 - 1<<32, least, least + 1, greatest - 1, greatest}
}

// rightEnds are from where to where samples may be.
func rightEnds() [][2]int {
	return [][2]int{
		{-million, million}, {-million, million - 1}, {1 - million, million}, {1 - million, million - 1},
		{-million, 1 - million}, {million - 1, million}, {-million, 0}, {0, million}, {0, 9}, {0, 1}, {-1, 0}, {-1, 1}, {-9, -3}, {5, 7},
	}
}

// wrongEnds are such that no group has both.
func wrongEnds() [][2]int {
	return [][2]int{
		// Beyond at one end, beyond at both.
		{-million - 1, million}, {-million, million + 1}, {-million - 1, 0}, {0, million + 1}, {-million - 1, -million}, {million, million + 1},
		{-million - 1, million + 1}, {least, million}, {-million, greatest}, {least, 0}, {0, greatest}, {least, -million}, {million, greatest}, {least, greatest},
		{least + 1, 0}, {0, greatest - 1}, {1 << 32, 1<<32 + 9}, {-1 << 32, 9 - 1<<32}, {0, 1<<32 + 9}, {-1 << 32, 9}, {million + 1, million + 2}, {-million - 2, -million - 1},
		// Equal.
		{0, 0}, {1, 1}, {-1, -1}, {9, 9}, {million, million}, {-million, -million}, {million - 1, million - 1}, {million + 1, million + 1}, {least, least}, {greatest, greatest},
		// In the wrong order.
		{1, 0}, {0, -1}, {9, 0}, {million, -million}, {million, million - 1}, {1 - million, -million}, {million, 0}, {0, -million},
		{greatest, least}, {greatest, 0}, {0, least}, {greatest, million}, {-million, least}, {million + 1, million}, {-million, -million - 1},
	}
}

// beyond are numbers that are no samples of the group.
func beyond(g api.Group) []int {
	return []int{g.Low - 1, g.High + 1, g.Low - 2, g.High + 2, g.Low - 1<<32, g.High + 1<<32, least, least + 1, greatest - 1, greatest}
}

// within are samples of the group, its ends among them.
func within(g api.Group) []int {
	return []int{g.Low, g.High, g.Low + (g.High-g.Low)/2, g.Low, min(g.Low+1, g.High), max(g.High-1, g.Low)}
}

// some are so many samples of the group, not all alike.
func some(g api.Group, n int) []int {
	l := make([]int, n)
	for i := range l {
		l[i] = within(g)[(i+i/6)%6]
	}
	return l
}

// shapes are groups without samples, of all sizes and all ends.
func shapes() []api.Group {
	var l []api.Group
	for size := 1; size <= 10; size++ {
		for _, ends := range rightEnds() {
			l = append(l, groupOf(size, ends[0], ends[1]))
		}
	}
	return l
}

// may are groups that may be, from those without samples to those that lack one.
func may() []api.Group {
	var l []api.Group
	for _, g := range shapes() {
		l = append(l, g, holding(g, []int{}))
		for n := 1; n < g.Size; n++ {
			l = append(l, holding(g, some(g, n)), holding(g, slices.Repeat([]int{g.Low}, n)), holding(g, slices.Repeat([]int{g.High}, n)))
		}
	}
	return l
}

// wrong is a group that may not be, and what is wrong with it.
type wrong struct {
	group api.Group
	what  string
}

// mayNot are groups that break one condition alone.
func mayNot() []wrong {
	var l []wrong
	put := func(what string, groups ...api.Group) {
		for _, g := range groups {
			l = append(l, wrong{g, what})
		}
	}
	for _, size := range wrongSizes() {
		put("the size", groupOf(size, 0, 9), groupOf(size, -million, million), groupOf(size, 0, 9, []int{}...))
		if size > 0 {
			put("the size", groupOf(size, 0, 9, 5), groupOf(size, 0, 9, 0, 1, 2, 3, 4, 5, 6, 7, 8, 9))
		}
	}
	for _, ends := range wrongEnds() {
		put("the ends", groupOf(1, ends[0], ends[1]), groupOf(5, ends[0], ends[1]), groupOf(10, ends[0], ends[1]))
		if ends[0] <= ends[1] {
			put("the ends", groupOf(2, ends[0], ends[1], ends[0]), groupOf(10, ends[0], ends[1], ends[1], ends[0], ends[1]))
		}
	}
	for _, g := range shapes() {
		for _, more := range []int{0, 1, 2, g.Size, 10, 100} {
			put("how many samples", holding(g, some(g, g.Size+more)))
		}
		for n := 1; n < g.Size; n++ {
			for place := range n {
				for _, x := range beyond(g) {
					have := some(g, n)
					have[place] = x
					put("a sample", holding(g, have))
				}
			}
		}
	}
	return l
}

// P10.1: the limits are the chapter's.
func TestLimits(t *testing.T) {
	if api.MaxGroup != 10 || api.MaxSample != million {
		t.Errorf("the limits are %d and %d", api.MaxGroup, api.MaxSample)
	}
}

// P10.1, R2: New of sizes and ends that may be, and of those that may not.
func TestNew(t *testing.T) {
	for size := 1; size <= 10; size++ {
		for _, ends := range rightEnds() {
			checkNew(t, size, ends[0], ends[1], groupOf(size, ends[0], ends[1]), api.OK)
		}
		for _, ends := range wrongEnds() {
			checkNew(t, size, ends[0], ends[1], api.Group{}, api.ErrArg)
		}
	}
	for _, size := range wrongSizes() {
		for _, ends := range slices.Concat(rightEnds(), wrongEnds()) {
			checkNew(t, size, ends[0], ends[1], api.Group{}, api.ErrArg)
		}
	}
}

// P10.1: Right of groups that may be, some of them only just.
func TestRight(t *testing.T) {
	for _, g := range may() {
		if !Right(g) {
			t.Errorf("Right(%v) = false", g)
		}
		if made, _ := New(g.Size, g.Low, g.High); !Right(made) {
			t.Errorf("Right of New(%d, %d, %d) = false", g.Size, g.Low, g.High)
		}
	}
}

// P10.1: Right of groups of which one thing is wrong, or all.
func TestNotRight(t *testing.T) {
	for _, x := range mayNot() {
		if Right(x.group) {
			t.Errorf("Right(%v) = true; %s may not be", x.group, x.what)
		}
	}
	if Right(api.Group{}) || Right(groupOf(0, 1, 0, 5)) || Right(groupOf(11, greatest, least, 0)) {
		t.Error("Right of groups of which all is wrong = true")
	}
}

// P10.1, R2: Add, Flush and Feed of groups that may not be, ahead of what is wrong with the samples.
func TestOfGroupsThatMayNotBe(t *testing.T) {
	none := api.Group{}
	for _, x := range append(mayNot(), wrong{none, "all"}) {
		g := x.group
		checkFlush(t, g, none, 0, api.ErrArg)
		for _, sample := range []int{g.Low, g.High, 0, 5, g.Low - 1, g.High + 1, least, greatest} {
			checkAdd(t, g, sample, none, nil, api.ErrArg)
			checkFeed(t, g, []int{sample}, none, nil, 0, api.ErrArg)
		}
		checkFeed(t, g, nil, none, nil, 0, api.ErrArg)
		checkFeed(t, g, []int{}, none, nil, 0, api.ErrArg)
		checkFeed(t, g, slices.Repeat([]int{5, g.Low, least}, 20), none, nil, 0, api.ErrArg)
	}
}

// P10.2: from an empty Have up to the sample that fills the row, and those behind it, at and between the ends.
func TestAdd(t *testing.T) {
	for _, shape := range shapes() {
		g, _ := New(shape.Size, shape.Low, shape.High)
		var have []int
		for _, x := range some(g, 3*g.Size+1) {
			// What the group holds then, whichever of its samples comes.
			for _, other := range within(g) {
				if len(have)+1 < g.Size {
					checkAdd(t, g, other, holding(shape, append(slices.Clone(have), other)), nil, api.OK)
				} else {
					checkAdd(t, g, other, shape, append(slices.Clone(have), other), api.OK)
				}
			}
			g, _, _ = Add(g, x)
			if have = append(have, x); len(have) == g.Size {
				have = nil
			}
			if !sameGroup(g, holding(shape, have)) {
				t.Fatalf("behind %d there is %v; want %v", x, g, have)
			}
		}
	}
}

// P10.2: what is reckoned by hand.
func TestAddByHand(t *testing.T) {
	checkAdd(t, groupOf(3, 0, 9), 4, groupOf(3, 0, 9, 4), nil, api.OK)
	checkAdd(t, groupOf(3, 0, 9, 4), 4, groupOf(3, 0, 9, 4, 4), nil, api.OK)
	checkAdd(t, groupOf(3, 0, 9, 4, 4), 0, groupOf(3, 0, 9), []int{4, 4, 0}, api.OK)
	checkAdd(t, groupOf(3, 0, 9, 9, 1), 5, groupOf(3, 0, 9), []int{9, 1, 5}, api.OK)
	checkAdd(t, groupOf(3, 0, 9, 9, 1), 10, api.Group{}, nil, api.ErrRange)
	checkAdd(t, groupOf(3, 0, 9, 9, 1), -1, api.Group{}, nil, api.ErrRange)
	checkAdd(t, groupOf(2, -million, million, million), -million, groupOf(2, -million, million), []int{million, -million}, api.OK)
	checkAdd(t, groupOf(10, 0, 9, 1, 2, 3, 4, 5, 6, 7, 8, 9), 0, groupOf(10, 0, 9), []int{1, 2, 3, 4, 5, 6, 7, 8, 9, 0}, api.OK)
}

// P10.2, R2: samples beyond the ends, whatever is in Have.
func TestAddBeyond(t *testing.T) {
	for _, g := range may() {
		for _, x := range beyond(g) {
			checkAdd(t, g, x, api.Group{}, nil, api.ErrRange)
		}
	}
}

// P10.2: in a group of 1 each sample is a row.
func TestRowsOfOne(t *testing.T) {
	g, _ := New(1, -2, 2)
	for _, x := range []int{-2, 2, 0, 0, -1, 1, 2, -2} {
		checkAdd(t, g, x, groupOf(1, -2, 2), []int{x}, api.OK)
		g, _, _ = Add(g, x)
	}
	checkAdd(t, g, 3, api.Group{}, nil, api.ErrRange)
	checkFlush(t, g, groupOf(1, -2, 2), 0, api.OK)
	checkFeed(t, g, []int{1, 3, -2, -3, 1}, groupOf(1, -2, 2), [][]int{{1}, {-2}, {1}}, 2, api.OK)
}

// P10.2: Flush of groups with all numbers of samples; a flushed one gathers anew.
func TestFlush(t *testing.T) {
	for _, g := range may() {
		empty := groupOf(g.Size, g.Low, g.High)
		checkFlush(t, g, empty, len(g.Have), api.OK)
		flushed, _, _ := Flush(g)
		checkFlush(t, flushed, empty, 0, api.OK)
		row := some(g, g.Size)
		checkFeed(t, flushed, row, empty, [][]int{row}, 0, api.OK)
	}
	checkFlush(t, groupOf(5, 0, 9, 3, 4), groupOf(5, 0, 9), 2, api.OK)
}

// reckoned is what Feed is to answer: what is in Have, and all samples that are not refused, cut into rows from the front.
func reckoned(g api.Group, l []int) (api.Group, [][]int, int) {
	taken := slices.DeleteFunc(slices.Clone(l), func(x int) bool { return x < g.Low || x > g.High })
	all := slices.Concat(g.Have, taken)
	full := len(all) / g.Size * g.Size
	return holding(g, all[full:]), slices.Collect(slices.Chunk(all[:full], g.Size)), len(l) - len(taken)
}

// added is what Add makes of the samples, one by one.
func added(t *testing.T, g api.Group, l []int) (api.Group, [][]int, int) {
	t.Helper()
	var rows [][]int
	refused := 0
	for _, x := range l {
		then, row, why := Add(g, x)
		switch why {
		case api.OK:
			g = then
		case api.ErrRange:
			refused++
		default:
			t.Errorf("Add(%v, %d) tells %d", g, x, why)
		}
		if len(row) > 0 {
			rows = append(rows, row)
		}
	}
	return g, rows, refused
}

// checkFed holds Feed's answer against both reckonings.
func checkFed(t *testing.T, g api.Group, l []int) {
	t.Helper()
	want, rows, refused := reckoned(g, l)
	checkFeed(t, g, l, want, rows, refused, api.OK)
	want, rows, refused = added(t, g, l)
	checkFeed(t, g, l, want, rows, refused, api.OK)
}

// mixed are the samples, with others that are refused put ahead of the place.
func mixed(l []int, place int, refused ...int) []int {
	return slices.Insert(slices.Clone(l), place, refused...)
}

// P10.3: no samples, one row less one sample, exactly one row, several, and one more, with refused ones at each place.
func TestFeed(t *testing.T) {
	for _, g := range may() {
		checkFed(t, g, nil)
		checkFed(t, g, []int{})
		checkFed(t, g, beyond(g))
		lack := g.Size - len(g.Have)
		for _, n := range []int{lack - 1, lack, lack + 1, lack + g.Size - 1, lack + g.Size, lack + 3*g.Size + 1} {
			l := some(g, n)
			checkFed(t, g, l)
			checkFed(t, g, mixed(l, 0, g.Low-1))
			checkFed(t, g, mixed(l, n/2, g.High+1, least, greatest))
			checkFed(t, g, mixed(l, n, beyond(g)...))
			checkFed(t, g, mixed(mixed(mixed(l, n, g.High+1), n/2, g.Low-1), 0, greatest, g.Low-1))
		}
	}
	for size := 1; size <= 10; size++ {
		g := groupOf(size, 0, 9)
		l := []int{0, 1, 2, 3, 4, 5, 6, 7, 8, 9, 9, 8, 7, 6, 5, 4, 3, 2, 1, 0, 5, 0, 9}
		for place := range len(l) + 1 {
			checkFed(t, g, mixed(l, place, 10))
			checkFed(t, g, mixed(l, place, -1, 10, -1))
		}
	}
}

// P10.3: what is reckoned by hand.
func TestFeedByHand(t *testing.T) {
	g := groupOf(3, 0, 9)
	checkFeed(t, g, nil, g, nil, 0, api.OK)
	checkFeed(t, g, []int{-1, 10, 11}, g, nil, 3, api.OK)
	checkFeed(t, g, []int{1, 2}, groupOf(3, 0, 9, 1, 2), nil, 0, api.OK)
	checkFeed(t, g, []int{1, 2, 3}, g, [][]int{{1, 2, 3}}, 0, api.OK)
	checkFeed(t, g, []int{10, 3, 2, 1, 10}, g, [][]int{{3, 2, 1}}, 2, api.OK)
	checkFeed(t, g, []int{1, 2, 3, 4, 5, 6, 7}, groupOf(3, 0, 9, 7), [][]int{{1, 2, 3}, {4, 5, 6}}, 0, api.OK)
	checkFeed(t, groupOf(3, 0, 9, 8, 9), []int{-1, 0, 1, 10, 2}, groupOf(3, 0, 9, 1, 2), [][]int{{8, 9, 0}}, 2, api.OK)
	checkFeed(t, groupOf(3, 0, 9, 8, 9), nil, groupOf(3, 0, 9, 8, 9), nil, 0, api.OK)
	checkFeed(t, groupOf(3, 0, 9, 8, 9), []int{10}, groupOf(3, 0, 9, 8, 9), nil, 1, api.OK)
}

// P10.3: the chapter's example.
func TestExample(t *testing.T) {
	g, why := New(2, 0, 9)
	if why != api.OK {
		t.Fatalf("New(2, 0, 9) tells %d", why)
	}
	checkFeed(t, g, []int{1, 10, 2, 3}, groupOf(2, 0, 9, 3), [][]int{{1, 2}}, 1, api.OK)
}

// P10.3: many samples, of which some are refused.
func TestFeedOfMany(t *testing.T) {
	draw := rand.New(rand.NewSource(10))
	for size := 1; size <= 10; size++ {
		g, _ := New(size, -100, 100)
		l := make([]int, 100000+size)
		for i := range l {
			l[i] = draw.Intn(221) - 110
		}
		checkFed(t, g, l)
	}
}

// lists are all lists of the samples, of so many at most.
func lists(samples []int, most int) [][]int {
	all := [][]int{nil}
	for from := 0; len(all[from]) < most; from++ {
		for _, x := range samples {
			all = append(all, append(slices.Clone(all[from]), x))
		}
	}
	return all
}

// P10.3: all that a small group can be fed.
func TestFeedOfAllLists(t *testing.T) {
	for size := 1; size <= 4; size++ {
		for _, have := range lists([]int{0, 1}, size-1) {
			for _, l := range lists([]int{-1, 0, 1, 2}, 5) {
				checkFed(t, groupOf(size, 0, 1, have...), l)
			}
		}
	}
}

// drawnGroup is a group that may be, of numbers that are drawn.
func drawnGroup(draw *rand.Rand) api.Group {
	ends := rightEnds()[draw.Intn(len(rightEnds()))]
	g := groupOf(1+draw.Intn(10), ends[0], ends[1])
	for range draw.Intn(g.Size) {
		g.Have = append(g.Have, g.Low+draw.Intn(g.High-g.Low+1))
	}
	return g
}

// drawnList are samples that are drawn, some of them beyond the group's ends.
func drawnList(draw *rand.Rand, g api.Group) []int {
	var l []int
	for range draw.Intn(4 * g.Size) {
		if x := g.Low + draw.Intn(g.High-g.Low+1); draw.Intn(4) > 0 {
			l = append(l, x)
		} else {
			l = append(l, beyond(g)[draw.Intn(10)])
		}
	}
	return l
}

// P10.4: the rows, and what is in Have, are all samples that were not refused, in order; each row is full, and the group may be.
func TestNothingIsLost(t *testing.T) {
	draw := rand.New(rand.NewSource(104))
	for range 5000 {
		g := drawnGroup(draw)
		l := drawnList(draw, g)
		then, rows, refused, _ := Feed(g, l)
		told := slices.Concat(slices.Concat(rows...), then.Have)
		taken := slices.Clone(g.Have)
		for _, x := range l {
			if g.Low <= x && x <= g.High {
				taken = append(taken, x)
			}
		}
		if !slices.Equal(told, taken) || refused != len(g.Have)+len(l)-len(taken) {
			t.Fatalf("Feed(%v, %v) tells %v, and %d refused", g, l, told, refused)
		}
		if slices.ContainsFunc(rows, func(row []int) bool { return len(row) != g.Size }) {
			t.Fatalf("Feed(%v, %v) tells rows %v", g, l, rows)
		}
		if !Right(then) || !sameGroup(holding(then, nil), holding(g, nil)) {
			t.Fatalf("Feed(%v, %v) leads to %v", g, l, then)
		}
	}
}

// P10.4: samples in two parts, cut at every place, are all of them at once.
func TestTwoParts(t *testing.T) {
	draw := rand.New(rand.NewSource(1042))
	for range 1000 {
		g := drawnGroup(draw)
		l := drawnList(draw, g)
		want, rows, refused, _ := Feed(g, l)
		for place := range len(l) + 1 {
			middle, first, n, _ := Feed(g, l[:place])
			then, second, m, why := Feed(middle, l[place:])
			if !sameGroup(then, want) || !sameRows(slices.Concat(first, second), rows) || n+m != refused || why != api.OK {
				t.Fatalf("Feed(%v, %v), cut at %d, tells %v, %v, %v, %d, %d, %d", g, l, place, then, first, second, n, m, why)
			}
		}
	}
}

// R3: nil lists count as empty ones.
func TestNilLists(t *testing.T) {
	for _, g := range shapes() {
		empty := holding(g, []int{})
		if !Right(g) || !Right(empty) {
			t.Errorf("Right of %v is not the same of a nil list and of an empty one", g)
		}
		want, row, why := Add(empty, g.High)
		checkAdd(t, holding(g, nil), g.High, want, row, why)
		checkFlush(t, holding(g, nil), empty, 0, api.OK)
		checkFlush(t, empty, holding(g, nil), 0, api.OK)
		checkFeed(t, holding(g, nil), nil, empty, nil, 0, api.OK)
		checkFeed(t, empty, []int{}, holding(g, nil), nil, 0, api.OK)
	}
}

// roomy are the samples, with room behind them; all there is, room and all, is told beside.
func roomy(l []int, room int) (samples, all []int) {
	all = append(slices.Clone(l), slices.Repeat([]int{least + 77}, room)...)
	return all[:len(l)], all
}

// R4: no call changes the group or the list that it was handed, nor what stands in the room behind.
func TestWhatIsHandedInStays(t *testing.T) {
	for _, g := range may() {
		for _, room := range []int{0, 1, g.Size - len(g.Have), 3 * g.Size} {
			have, all := roomy(g.Have, room)
			l, fed := roomy(append(some(g, 2*g.Size+1), beyond(g)...), room)
			whole, list := slices.Clone(all), slices.Clone(fed)
			handed := holding(g, have)
			Right(handed)
			for _, x := range append(within(g), beyond(g)...) {
				Add(handed, x)
			}
			Flush(handed)
			Feed(handed, l)
			Feed(handed, nil)
			if !slices.Equal(all, whole) || !slices.Equal(fed, list) {
				t.Fatalf("of %v, with room for %d, there is %v; of the list %v", g, room, all, fed)
			}
			// What stands in the room is nothing to the answers.
			checkFlush(t, handed, holding(g, nil), len(g.Have), api.OK)
			checkFed(t, handed, l)
		}
	}
}

// kept is an answer's list, and how it read when it was told.
type kept struct{ list, read []int }

// keeper keeps lists that were told.
type keeper struct{ lists []kept }

func (k *keeper) keep(lists ...[]int) {
	for _, l := range lists {
		k.lists = append(k.lists, kept{l, slices.Clone(l)})
	}
}

// check holds each list that was kept against how it read.
func (k *keeper) check(t *testing.T) {
	t.Helper()
	for i, x := range k.lists {
		if !slices.Equal(x.list, x.read) {
			t.Fatalf("list %d was %v when it was told, and is %v now", i, x.read, x.list)
		}
	}
}

// R1, R4: rows and groups that were told read as before when more samples come, also if several go on from one of them.
func TestWhatWasToldStays(t *testing.T) {
	for _, start := range may() {
		var k keeper
		g := start
		for i, x := range some(g, 2*g.Size+3) {
			k.keep(g.Have)
			fed, rows, _, _ := Feed(g, []int{g.High, g.Low, x, g.High})
			k.keep(append(rows, fed.Have)...)
			for _, other := range []int{g.Low, g.High} {
				then, row, _ := Add(g, other)
				k.keep(then.Have, row)
			}
			then, row, _ := Add(g, x)
			k.keep(then.Have, row)
			if g = then; i%7 == 3 {
				Flush(g)
			}
		}
		k.check(t)
	}
}

// spoil writes over a list, and over the room behind it.
func spoil(l []int) {
	l = l[:cap(l)]
	for i := range l {
		l[i] = greatest - 7
	}
}

// R1, R4: no two lists of one answer share anything, and none shares with what was handed in.
func TestAnswersAreTheCallersOwn(t *testing.T) {
	for _, start := range may() {
		for spoilt := 0; ; spoilt++ {
			have, all := roomy(start.Have, 2)
			g, list := holding(start, have), some(start, 3*start.Size+2)
			then, rows, _, _ := Feed(g, list)
			after, row, _ := Add(g, start.High)
			flushed, _, _ := Flush(g)
			told := append(slices.Clone(rows), then.Have, after.Have, row, flushed.Have, all, list)
			if spoilt == len(told) {
				break
			}
			var k keeper
			k.keep(told[:spoilt]...)
			k.keep(told[spoilt+1:]...)
			spoil(told[spoilt])
			k.check(t)
		}
	}
}

// questions are calls with their right answers, refused ones among them.
func questions() []func() bool {
	var l []func() bool
	draw := rand.New(rand.NewSource(1))
	for range 200 {
		g := drawnGroup(draw)
		g.Have, _ = roomy(g.Have, draw.Intn(12))
		fed := drawnList(draw, g)
		l = append(l, func() bool {
			made, why := New(g.Size, g.Low, g.High)
			return why == api.OK && sameGroup(made, holding(g, nil)) && Right(made) && Right(g)
		}, func() bool {
			want, row, _ := reckoned(g, []int{g.High})
			then, full, why := Add(g, g.High)
			return why == api.OK && sameGroup(then, want) && slices.Equal(full, slices.Concat(row...))
		}, func() bool {
			then, full, why := Add(g, g.Low-1)
			return why == api.ErrRange && sameGroup(then, api.Group{}) && len(full) == 0
		}, func() bool {
			then, n, why := Flush(g)
			return why == api.OK && sameGroup(then, holding(g, nil)) && n == len(g.Have)
		}, func() bool {
			want, rows, refused := reckoned(g, fed)
			then, full, n, why := Feed(g, fed)
			return why == api.OK && sameGroup(then, want) && sameRows(full, rows) && n == refused
		})
	}
	for _, x := range mayNot()[:100] {
		l = append(l, func() bool {
			_, full, why := Add(x.group, 0)
			then, n, told := Flush(x.group)
			return !Right(x.group) && why == api.ErrArg && len(full) == 0 && told == api.ErrArg && n == 0 && sameGroup(then, api.Group{})
		})
	}
	return l
}

// R1: calls in any order, many times over, answer the same.
func TestCallsInAnyOrder(t *testing.T) {
	draw := rand.New(rand.NewSource(2))
	l := questions()
	for range 20 {
		for _, i := range draw.Perm(len(l)) {
			if !l[i]() {
				t.Fatalf("question %d has another answer", i)
			}
		}
	}
}

// R1: calls of several goroutines at once answer the same, of the same groups and lists.
func TestCallsAtOnce(t *testing.T) {
	l := questions()
	var begun, ended sync.WaitGroup
	begun.Add(1)
	for g := range 16 {
		ended.Go(func() {
			begun.Wait()
			draw := rand.New(rand.NewSource(int64(g)))
			for range 5 {
				for _, i := range draw.Perm(len(l)) {
					if !l[i]() {
						t.Errorf("question %d has another answer in goroutine %d", i, g)
						return
					}
				}
			}
		})
	}
	begun.Done()
	ended.Wait()
}
