package nelson

import (
	"math"
	"math/rand"
	"slices"
	"sync"
	"testing"

	"datum/api"
)

const (
	least    = math.MinInt
	greatest = math.MaxInt
)

// maskOf is the mask that has these classes, each of which is given once.
func maskOf(classes ...int) int {
	mask := 0
	for _, c := range classes {
		mask += []int{1, 2, 4, 8, 16, 32, 64, 128, 256}[c+4]
	}
	return mask
}

// masksOf are the masks that have one class each.
func masksOf(l []int) []int {
	var masks []int
	for _, c := range l {
		masks = append(masks, maskOf(c))
	}
	return masks
}

// listOf are the classes that a mask has, the least one first.
func listOf(mask int) []int {
	var l []int
	for c := -4; c <= 4; c++ {
		if mask%2 == 1 {
			l = append(l, c)
		}
		mask /= 2
	}
	return l
}

// otherMasks are those of the other side of the middle.
func otherMasks(masks []int) []int {
	var turned []int
	for _, mask := range masks {
		turned = append(turned, maskOf(other(listOf(mask))...))
	}
	return turned
}

// isNone is whether the number is no mask.
func isNone(mask int) bool { return mask < 1 || mask > 511 }

// rowsOf is how many rows of classes are of these masks.
func rowsOf(masks []int) int {
	n := 1
	for _, mask := range masks {
		n *= len(listOf(mask))
	}
	return n
}

// told is what a rule tells, by whether it holds of some row, and lacks of some.
func told(some, all bool) int {
	switch {
	case all:
		return api.RYes
	case some:
		return api.RMaybe
	}
	return api.RNo
}

// counted is what a rule tells of masks, by what holds of each row of classes that is of them.
func counted(rule int, masks []int) int {
	masks = masks[max(0, len(masks)-lengths()[rule-1]):]
	row, some, all := make([]int, len(masks)), false, true
	var fill func(i int)
	fill = func(i int) {
		if i == len(masks) {
			holds := holdsOf(rule, row)
			some, all = some || holds, all && holds
			return
		}
		for _, c := range listOf(masks[i]) {
			// Once it held of one row, and did not of another, no other one makes a difference.
			if row[i] = c; all || !some {
				fill(i + 1)
			}
		}
	}
	fill(0)
	return told(some, all)
}

// meets is how many of the masks have such a class, and how many have such ones alone.
func meets(masks []int, such func(c int) bool) (int, int) {
	some, all := 0, 0
	for _, mask := range masks {
		l := listOf(mask)
		if n := count(l, such); n == len(l) {
			all++
		}
		if slices.ContainsFunc(l, such) {
			some++
		}
	}
	return some, all
}

// climbs is whether some row of the masks rises, and whether all do.
func climbs(masks []int) (bool, bool) {
	all, ahead := true, -5
	for i, mask := range masks {
		l := listOf(mask)
		if i > 0 && l[0] <= slices.Max(listOf(masks[i-1])) {
			all = false
		}
		// What rises may as well begin each step as low as it can.
		at := slices.IndexFunc(l, func(c int) bool { return c > ahead })
		if at < 0 {
			return false, false
		}
		ahead = l[at]
	}
	return true, all
}

// swings is whether some row of the masks has each other point, from that at first on, below those beside it, and whether all have.
func swings(masks []int, first int) (bool, bool) {
	some, all := true, true
	for i := range len(masks) - 1 {
		low, high := listOf(masks[i]), listOf(masks[i+1])
		if i%2 != first {
			low, high = high, low
		}
		some = some && low[0] < high[len(high)-1]
		all = all && low[len(low)-1] < high[0]
	}
	return some, all
}

// apart are masks of three points: whether some row has at most one of 3 or more, and at most one of -3 or less.
func apart(masks []int) bool {
	above, below, both := 0, 0, 0
	for _, mask := range masks {
		l := listOf(mask)
		up, down := count(l, func(c int) bool { return c >= 3 }), count(l, func(c int) bool { return c <= -3 })
		switch {
		case up+down < len(l):
		case down == 0:
			above++
		case up == 0:
			below++
		default:
			both++
		}
	}
	return above <= 1 && below <= 1 && above+below+both <= 2
}

// shown is what a rule tells of masks, by a reckoning that needs no rows, so that it holds of any masks.
func shown(rule int, masks []int) int {
	masks, there := last(masks, lengths()[rule-1])
	if !there {
		return api.RNo
	}
	n := len(masks)
	all := func(such func(c int) bool) int {
		some, sure := meets(masks, such)
		return told(some == n, sure == n)
	}
	either := func(far, k int) (bool, bool) {
		above, onlyAbove := meets(masks, func(c int) bool { return c >= far })
		below, onlyBelow := meets(masks, func(c int) bool { return c <= -far })
		return above >= k || below >= k, onlyAbove >= k || onlyBelow >= k
	}
	switch rule {
	case 1:
		return all(func(c int) bool { return c == 4 || c == -4 })
	case 2:
		return told(either(1, 9))
	case 3:
		up, upward := climbs(masks)
		down, downward := climbs(otherMasks(masks))
		return told(up || down, upward || downward)
	case 4:
		one, allOne := swings(masks, 0)
		two, allTwo := swings(masks, 1)
		return told(one || two, allOne || allTwo)
	case 5:
		some, _ := either(3, 2)
		return told(some, !apart(masks))
	case 6:
		return told(either(2, 4))
	case 7:
		return all(func(c int) bool { return -1 <= c && c <= 1 })
	}
	return all(func(c int) bool { return c >= 2 || c <= -2 })
}

// tooMany is how many rows are too many to go through.
const tooMany = 4000

// reckonedTell is Tell's answer, found apart from the program.
func reckonedTell(masks []int) ([8]int, api.Errno) {
	if len(masks) > 15 || slices.ContainsFunc(masks, isNone) {
		return [8]int{}, api.ErrArg
	}
	var rules [8]int
	for i := range rules {
		if row := masks[max(0, len(masks)-lengths()[i]):]; rowsOf(row) <= tooMany {
			rules[i] = counted(i+1, masks)
		} else {
			rules[i] = shown(i+1, masks)
		}
	}
	return rules, api.OK
}

// checkTell holds Tell's answer against what is wanted, and the masks against what they were.
func checkTell(t *testing.T, masks []int, want [8]int, why api.Errno) {
	t.Helper()
	was := slices.Clone(masks)
	if got, told := Tell(masks); got != want || told != why {
		t.Errorf("Tell(%v) = %v, %d; want %v, %d", was, got, told, want, why)
	}
	if !slices.Equal(masks, was) {
		t.Errorf("Tell(%v) made that %v", was, masks)
	}
}

// checkTold holds Tell's answer against a reckoning.
func checkTold(t *testing.T, masks []int) {
	t.Helper()
	want, why := reckonedTell(masks)
	checkTell(t, masks, want, why)
}

// noMasks are numbers that are none.
func noMasks() []int {
	return []int{0, 512, 513, 768, 1023, 1024, 1 << 32, 1<<32 + 1, greatest - 1, greatest, -1, -2, -16, -511, -512, -513, least, least + 1, least + 16, least + 511}
}

// drawnMasks are masks that are drawn: those of a row of classes, some of which have others as well.
func drawnMasks(draw *rand.Rand) []int {
	masks := masksOf(drawnRow(draw))
	often := draw.Intn(8)
	for i := range masks {
		if draw.Intn(8) < often {
			masks[i] |= 1 << draw.Intn(9)
		}
		if often == 7 && draw.Intn(3) == 0 {
			masks[i] |= draw.Intn(512)
		}
	}
	return masks
}

// anyMasks are n masks that are drawn, each of any classes.
func anyMasks(draw *rand.Rand, n int) []int {
	masks := make([]int, n)
	for i := range masks {
		masks[i] = 1 + draw.Intn(511)
	}
	return masks
}

// P14.2: the chapter's example, and what is reckoned by hand.
func TestTellByHand(t *testing.T) {
	checkTell(t, []int{maskOf(3, -3), maskOf(3), maskOf(-3)}, [8]int{4: 2}, api.OK)
	checkTell(t, nil, [8]int{}, api.OK)
	checkTell(t, []int{}, [8]int{}, api.OK)
	checkTell(t, []int{511}, [8]int{0: 1}, api.OK)
	checkTell(t, []int{257}, [8]int{0: 2}, api.OK)
	checkTell(t, []int{254}, [8]int{}, api.OK)
	checkTell(t, []int{511, 511, 511}, [8]int{0: 1, 4: 1}, api.OK)
	checkTell(t, many(15, 511), [8]int{1, 1, 1, 1, 1, 1, 1, 1}, api.OK)
	checkTell(t, many(14, 511), [8]int{1, 1, 1, 1, 1, 1, 0, 1}, api.OK)
	checkTell(t, many(15, maskOf(4, -4)), [8]int{2, 1, 0, 1, 2, 1, 0, 2}, api.OK)
	checkTell(t, many(15, maskOf(0, 1)), [8]int{0, 1, 0, 1, 0, 0, 2, 0}, api.OK)
	checkTell(t, swing(15, maskOf(-4, -3, -2), maskOf(-1, 4)), [8]int{1, 1, 0, 2, 1, 0, 0, 1}, api.OK)
	checkTell(t, []int{maskOf(-4), maskOf(-3), maskOf(-2), maskOf(-1, 0), maskOf(1, 2), maskOf(3, 4)}, [8]int{0: 1, 2: 2}, api.OK)
	checkTell(t, []int{maskOf(-4), maskOf(-3), maskOf(-2), maskOf(-1, 1), maskOf(0, 2), maskOf(3, 4)}, [8]int{0: 1, 2: 1}, api.OK)
	checkTell(t, []int{2, 2, 2, maskOf(1, 2, 3, 4), maskOf(0, -1), 2}, [8]int{}, api.OK)
	checkTell(t, append(many(8, maskOf(1, 2)), maskOf(1, 4)), [8]int{0: 1, 1: 2, 5: 1, 7: 1}, api.OK)
	checkTell(t, append(many(8, maskOf(1, 2)), maskOf(0, 4)), [8]int{0: 1, 1: 1, 5: 1, 7: 1}, api.OK)
}

// P14.2: masks that have classes of both sides: rule 5 may be certain though neither side is, rule 6 is not.
func TestEitherSide(t *testing.T) {
	three, two := maskOf(3, -4), maskOf(2, -2)
	checkTell(t, []int{three, three, three}, [8]int{0: 1, 4: 2}, api.OK)
	checkTell(t, []int{three, three, 16}, [8]int{4: 1}, api.OK)
	checkTell(t, []int{three, 128, 16}, [8]int{4: 1}, api.OK)
	checkTell(t, []int{three, 128, 128}, [8]int{4: 2}, api.OK)
	checkTell(t, []int{three, 128, maskOf(-3, 0)}, [8]int{4: 1}, api.OK)
	checkTell(t, []int{three, 16, 16}, [8]int{}, api.OK)
	checkTell(t, many(5, two), [8]int{5: 1}, api.OK)
	checkTell(t, []int{two, 64, 64, 64, 64}, [8]int{5: 2}, api.OK)
	checkTell(t, []int{two, 64, 64, 64, 4}, [8]int{5: 1}, api.OK)
	checkTell(t, []int{two, 64, 64, 4, 4}, [8]int{}, api.OK)
	checkTell(t, []int{two, two, 64, 64, 4}, [8]int{5: 1}, api.OK)
}

// P14.2: all small rows of masks, by each row of classes.
func TestSmallRowsOfMasks(t *testing.T) {
	for mask := 1; mask <= 511; mask++ {
		checkTold(t, []int{mask})
		for _, ahead := range []int{1, 16, 40, 257, 511} {
			checkTold(t, []int{ahead, mask})
			checkTold(t, []int{mask, ahead})
		}
	}
	check := func(masks []int) { checkTold(t, masks) }
	eachRow(3, allOf(-3, -2, 2, 3), check)
	eachRow(3, allOf(-4, 0, 4), check)
	eachRow(4, allOf(-3, 0, 3), check)
	eachRow(5, allOf(-2, 0, 2), check)
	eachRow(6, []int{maskOf(-4, -2), maskOf(-3, 0), maskOf(-1, 1), maskOf(0, 3)}, check)
	eachRow(8, []int{maskOf(2), maskOf(-2, 3), maskOf(1, 4)}, check)
	eachRow(9, []int{maskOf(1, 2), maskOf(0, 4), maskOf(-1)}, check)
}

// allOf are all masks that have some of the classes, and no other ones.
func allOf(classes ...int) []int {
	var masks []int
	for mask := 1; mask <= 511; mask++ {
		if count(listOf(mask), func(c int) bool { return !slices.Contains(classes, c) }) == 0 {
			masks = append(masks, mask)
		}
	}
	return masks
}

// P14.2: each rule's rows where it just holds, and just does not, with each other class at each place.
func TestOneClassMore(t *testing.T) {
	for _, b := range rows() {
		for _, l := range slices.Concat(b.holds, b.lacks) {
			for i := range l {
				for c := -4; c <= 4; c++ {
					masks := masksOf(l)
					masks[i] |= maskOf(c)
					checkTold(t, masks)
				}
			}
		}
	}
}

// P14.2: rules 4 and 7 with as many points as they look at, by each row of classes.
func TestLongRows(t *testing.T) {
	draw := rand.New(rand.NewSource(142))
	for _, rule := range []int{4, 7} {
		for range 400 {
			l := drawnFor(draw, rule)
			masks := masksOf(l)
			for i := range masks {
				switch draw.Intn(4) {
				case 0:
					masks[i] |= maskOf(max(-4, l[i]-1))
				case 1:
					masks[i] |= maskOf(min(4, l[i]+1))
				}
			}
			if draw.Intn(2) == 0 {
				masks[draw.Intn(len(masks))] |= maskOf(drawnClass(draw))
			}
			want := counted(rule, masks)
			if got, why := Tell(masks); got[rule-1] != want || why != api.OK {
				t.Errorf("Tell(%v) = %v, %d; want %d of rule %d", masks, got, why, want, rule)
			}
		}
	}
	for _, masks := range [][]int{many(14, maskOf(0, 1)), many(15, maskOf(0, 1)), many(15, maskOf(1, 2)), many(15, maskOf(2, 3)), swing(14, maskOf(0, 1), maskOf(2, 3)), swing(14, maskOf(2, 3), maskOf(0, 1)), swing(15, maskOf(0, 2), maskOf(1, 3))} {
		for _, rule := range []int{4, 7} {
			if got, why := Tell(masks); got[rule-1] != counted(rule, masks) || why != api.OK {
				t.Errorf("Tell(%v) = %v, %d; want %d of rule %d", masks, got, why, counted(rule, masks), rule)
			}
		}
	}
}

// P14.2: drawn masks, by each row of classes where these are not too many.
func TestTell(t *testing.T) {
	draw := rand.New(rand.NewSource(1421))
	for range 8000 {
		checkTold(t, drawnMasks(draw))
	}
	for n := range 16 {
		for range 100 {
			checkTold(t, anyMasks(draw, n))
		}
	}
}

// P14.2: the reckoning that needs no rows tells what the rows do.
func TestReckonings(t *testing.T) {
	draw := rand.New(rand.NewSource(1422))
	for range 3000 {
		masks := drawnMasks(draw)
		for rule := 1; rule <= 8; rule++ {
			row := masks[max(0, len(masks)-lengths()[rule-1]):]
			if rowsOf(row) > tooMany {
				continue
			}
			if one, two := counted(rule, masks), shown(rule, masks); one != two {
				t.Fatalf("of %v rule %d tells %d, and %d without rows", masks, rule, one, two)
			}
		}
	}
}

// P14.2: a number that is no mask is wrong at each place, and 16 masks are too many.
func TestWrongMasks(t *testing.T) {
	draw := rand.New(rand.NewSource(1423))
	for _, none := range noMasks() {
		for n := 1; n <= 16; n++ {
			for i := range n {
				checkTell(t, with(many(n, 256), i, none), [8]int{}, api.ErrArg)
				checkTell(t, with(anyMasks(draw, n), i, none), [8]int{}, api.ErrArg)
			}
			checkTell(t, many(n, none), [8]int{}, api.ErrArg)
		}
	}
	for _, n := range []int{16, 17, 30, 100, 1000} {
		for _, mask := range []int{1, 16, 256, 257, 511, 0, 512, -1} {
			checkTell(t, many(n, mask), [8]int{}, api.ErrArg)
		}
		checkTell(t, anyMasks(draw, n), [8]int{}, api.ErrArg)
	}
}

// checkPush holds Push's answer against what is wanted, and the masks against what they were.
func checkPush(t *testing.T, masks []int, m int, want []int, why api.Errno) {
	t.Helper()
	room := append(slices.Clone(masks), 7, 7, 7)
	handed := room[:len(masks)]
	got, told := Push(handed, m)
	if !slices.Equal(got, want) || told != why {
		t.Errorf("Push(%v, %d) = %v, %d; want %v, %d", masks, m, got, told, want, why)
	}
	// What is done to the answer is not to be seen in what was handed in, nor in the room behind that.
	for i := range got {
		got[i] = -5
	}
	_ = append(got, -5)
	if !slices.Equal(room, append(slices.Clone(masks), 7, 7, 7)) {
		t.Errorf("Push(%v, %d) made that %v", masks, m, room)
	}
}

// P14.3: behind 0 to 14 masks, and behind 15, of which the first one is gone.
func TestPush(t *testing.T) {
	draw := rand.New(rand.NewSource(143))
	checkPush(t, nil, 1, []int{1}, api.OK)
	checkPush(t, []int{}, 511, []int{511}, api.OK)
	checkPush(t, []int{1, 2}, 3, []int{1, 2, 3}, api.OK)
	checkPush(t, []int{1, 2, 3, 4, 5, 6, 7, 8, 9, 10, 11, 12, 13, 14}, 15, []int{1, 2, 3, 4, 5, 6, 7, 8, 9, 10, 11, 12, 13, 14, 15}, api.OK)
	checkPush(t, []int{1, 2, 3, 4, 5, 6, 7, 8, 9, 10, 11, 12, 13, 14, 15}, 16, []int{2, 3, 4, 5, 6, 7, 8, 9, 10, 11, 12, 13, 14, 15, 16}, api.OK)
	for n := range 16 {
		for m := 1; m <= 511; m++ {
			masks := anyMasks(draw, n)
			want := append(slices.Clone(masks), m)
			checkPush(t, masks, m, want[max(0, n-14):], api.OK)
		}
	}
}

// P14.3: masks come one by one, and the last 15 stay.
func TestPushMany(t *testing.T) {
	draw := rand.New(rand.NewSource(1431))
	all := anyMasks(draw, 400)
	var masks []int
	for i, m := range all {
		ahead := masks
		var why api.Errno
		masks, why = Push(masks, m)
		if !slices.Equal(masks, all[max(0, i-14):i+1]) || why != api.OK {
			t.Fatalf("behind %d masks there are %v, %d", i+1, masks, why)
		}
		if !slices.Equal(ahead, all[max(0, i-15):i]) {
			t.Fatalf("Push of mask %d changed what was handed in", i)
		}
	}
}

// P14.3: 16 masks, a number among them that is none, and an m that is none, each alone, and several of them at once.
func TestWrongPushes(t *testing.T) {
	draw := rand.New(rand.NewSource(1432))
	for _, none := range noMasks() {
		for n := range 17 {
			checkPush(t, anyMasks(draw, n), none, nil, api.ErrArg)
			for i := range n {
				checkPush(t, with(anyMasks(draw, n), i, none), 1+draw.Intn(511), nil, api.ErrArg)
				checkPush(t, with(anyMasks(draw, n), i, none), none, nil, api.ErrArg)
			}
		}
	}
	for _, n := range []int{16, 17, 30, 100} {
		for m := 1; m <= 511; m++ {
			checkPush(t, anyMasks(draw, n), m, nil, api.ErrArg)
		}
	}
}

// P14.4: where each mask has one class, what is told is what holds.
func TestNothingUncertain(t *testing.T) {
	draw := rand.New(rand.NewSource(144))
	check := func(l []int) {
		holds, _ := Exact(l)
		var want [8]int
		for i := range want {
			want[i] = told(holds[i], holds[i])
		}
		checkTell(t, masksOf(l), want, api.OK)
	}
	for n := range 5 {
		eachRow(n, []int{-4, -3, -2, -1, 0, 1, 2, 3, 4}, check)
	}
	for range 20000 {
		check(drawnRow(draw))
	}
}

// P14.4: masks that have less never turn yes to no, nor no to yes, and what is certain stays so.
func TestLess(t *testing.T) {
	draw := rand.New(rand.NewSource(1441))
	for range 10000 {
		more := drawnMasks(draw)
		less := slices.Clone(more)
		for i := range less {
			if kept := less[i] & draw.Intn(512); kept != 0 {
				less[i] = kept
			}
		}
		ahead, _ := Tell(more)
		behind, why := Tell(less)
		for i := range ahead {
			if ahead[i] != api.RMaybe && behind[i] != ahead[i] || why != api.OK {
				t.Fatalf("Tell(%v) = %v, and of %v it is %v, %d", more, ahead, less, behind, why)
			}
		}
	}
}

// P14.4: one mask that is parted in two is certain just where both parts are, alike.
func TestParted(t *testing.T) {
	draw := rand.New(rand.NewSource(1442))
	for range 10000 {
		masks := drawnMasks(draw)
		if len(masks) == 0 {
			continue
		}
		at := draw.Intn(len(masks))
		part := masks[at] & draw.Intn(512)
		if part == 0 || part == masks[at] {
			continue
		}
		whole, _ := Tell(masks)
		one, _ := Tell(with(masks, at, part))
		two, _ := Tell(with(masks, at, masks[at]-part))
		for i := range whole {
			want := api.RMaybe
			if one[i] == two[i] {
				want = one[i]
			}
			if whole[i] != want {
				t.Fatalf("Tell(%v) = %v; with %d and %d for mask %d it is %v and %v", masks, whole, part, masks[at]-part, at, one, two)
			}
		}
	}
}

// P14.4: the other side of the middle makes no difference.
func TestOtherSide(t *testing.T) {
	draw := rand.New(rand.NewSource(1443))
	for range 10000 {
		l, masks := drawnRow(draw), drawnMasks(draw)
		holds, _ := Exact(l)
		checkExact(t, other(l), holds, api.OK)
		rules, _ := Tell(masks)
		checkTell(t, otherMasks(masks), rules, api.OK)
	}
}

// questions are calls with their right answers, refused ones among them.
func questions() []func() bool {
	var l []func() bool
	draw := rand.New(rand.NewSource(1))
	for range 100 {
		classes, masks, m := drawnRow(draw), drawnMasks(draw), 1+draw.Intn(511)
		holds, _ := reckoned(classes)
		rules, _ := reckonedTell(masks)
		behind := append(slices.Clone(masks), m)
		behind = behind[max(0, len(masks)-14):]
		l = append(l, func() bool {
			got, why := Exact(classes)
			return got == holds && why == api.OK
		}, func() bool {
			got, why := Tell(masks)
			return got == rules && why == api.OK
		}, func() bool {
			got, why := Push(masks, m)
			return slices.Equal(got, behind) && why == api.OK
		}, func() bool {
			got, why := Exact(append(slices.Clone(classes), 5))
			more, told := Tell(append(slices.Clone(masks), 512))
			return got == [8]bool{} && why == api.ErrArg && more == [8]int{} && told == api.ErrArg
		}, func() bool {
			got, why := Push(masks, -m)
			return len(got) == 0 && why == api.ErrArg
		})
	}
	return l
}

// R1: calls in any order, many times over, answer the same.
func TestCallsInAnyOrder(t *testing.T) {
	draw := rand.New(rand.NewSource(2))
	l := questions()
	for range 20 {
		for _, i := range draw.Perm(len(l)) {
			if !l[i]() {
				t.Fatalf("question %d has another answer", i)
			}
		}
	}
}

// R1: calls of several goroutines at once, which share what they hand in, answer the same.
func TestCallsAtOnce(t *testing.T) {
	l := questions()
	var begun, ended sync.WaitGroup
	begun.Add(1)
	for g := range 16 {
		ended.Go(func() {
			begun.Wait()
			draw := rand.New(rand.NewSource(int64(g)))
			for range 10 {
				for _, i := range draw.Perm(len(l)) {
					if !l[i]() {
						t.Errorf("question %d has another answer in goroutine %d", i, g)
						return
					}
				}
			}
		})
	}
	begun.Done()
	ended.Wait()
}
