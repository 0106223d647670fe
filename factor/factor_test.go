package factor

import (
	"math"
	"math/big"
	"math/rand"
	"slices"
	"strconv"
	"strings"
	"sync"
	"testing"

	"datum/api"
)

// chapter is the chapter's table, as it stands there.
const chapter = `
| 0 FA2 | 18800 | 10230 | 7290 | 5770 | 4830 | 4190 | 3730 | 3370 | 3080 |
| 1 FD3 | 0 | 0 | 0 | 0 | 0 | 760 | 1360 | 1840 | 2230 |
| 2 FD4 | 32670 | 25740 | 22820 | 21140 | 20040 | 19240 | 18640 | 18160 | 17770 |
| 3 FD2 | 11280 | 16930 | 20590 | 23260 | 25340 | 27040 | 28470 | 29700 | 30780 |
| 4 FA3 | 26590 | 19540 | 16280 | 14270 | 12870 | 11820 | 10990 | 10320 | 9750 |
| 5 FB3 | 0 | 0 | 0 | 0 | 300 | 1180 | 1850 | 2390 | 2840 |
| 6 FB4 | 32670 | 25680 | 22660 | 20890 | 19700 | 18820 | 18150 | 17610 | 17160 |
`

// names are the factors', in order.
var names = []string{"FA2", "FD3", "FD4", "FD2", "FA3", "FB3", "FB4"}

// written is the chapter's table: its lines' numbers, from a row of 2 samples on.
func written(t *testing.T) [][]int {
	t.Helper()
	var table [][]int
	for kind, line := range strings.Split(strings.TrimSpace(chapter), "\n") {
		cells := strings.Split(strings.Trim(line, "| "), " | ")
		if len(cells) != 10 || cells[0] != strconv.Itoa(kind)+" "+names[kind] {
			t.Fatalf("line %d of the table is %q", kind, line)
		}
		var numbers []int
		for _, cell := range cells[1:] {
			number, err := strconv.Atoi(cell)
			if err != nil {
				t.Fatal(err)
			}
			numbers = append(numbers, number)
		}
		table = append(table, numbers)
	}
	if len(table) != 7 {
		t.Fatalf("the table has %d lines", len(table))
	}
	return table
}

// noFactors are kinds of which there is no factor.
func noFactors() []int {
	return []int{-1, 7, -2, 8, 10, 100, -7, 1 << 32, 1<<32 + 3, -1 << 32, math.MinInt, math.MinInt + 1, math.MaxInt - 1, math.MaxInt}
}

// noSizes are numbers of samples that make no row which has factors.
func noSizes() []int {
	return []int{1, 11, 0, -1, -2, -10, 12, 100, 1<<32 + 2, 1 << 32, -1 << 32, math.MinInt, math.MinInt + 1, math.MaxInt - 1, math.MaxInt}
}

// checkFactor holds Factor's answer against what is wanted.
func checkFactor(t *testing.T, kind, n, want int, why api.Errno) {
	t.Helper()
	if got, told := Factor(kind, n); got != want || told != why {
		t.Errorf("Factor(%d, %d) = %d, %d; want %d, %d", kind, n, got, told, want, why)
	}
}

// checkAll holds All's answer against what is wanted.
func checkAll(t *testing.T, n int, want [7]int, why api.Errno) {
	t.Helper()
	if got, told := All(n); got != want || told != why {
		t.Errorf("All(%d) = %v, %d; want %v, %d", n, got, told, want, why)
	}
}

// checkNearest holds Nearest's answer against what is wanted.
func checkNearest(t *testing.T, kind, v, want int, why api.Errno) {
	t.Helper()
	if got, told := Nearest(kind, v); got != want || told != why {
		t.Errorf("Nearest(%d, %d) = %d, %d; want %d, %d", kind, v, got, told, want, why)
	}
}

// P9.1: the factors are told apart by the numbers that the chapter gives them.
func TestNamesOfFactors(t *testing.T) {
	if kinds := []int{api.FA2, api.FD3, api.FD4, api.FD2, api.FA3, api.FB3, api.FB4}; !slices.Equal(kinds, []int{0, 1, 2, 3, 4, 5, 6}) || api.Factors != 7 {
		t.Errorf("the factors are %v, and %d of them", kinds, api.Factors)
	}
}

// P9.1: each number of the table, by Factor and by All.
func TestTable(t *testing.T) {
	told := 0
	table := written(t)
	for i := range 9 {
		var all [7]int
		for kind := range table {
			all[kind] = table[kind][i]
			checkFactor(t, kind, i+2, table[kind][i], api.OK)
			told++
		}
		checkAll(t, i+2, all, api.OK)
	}
	if told != 63 {
		t.Errorf("%d numbers were looked at", told)
	}
}

// P9.1, R2: a kind or a size that may not be is told with zero values beside it, and the kind ahead of the size.
func TestWhatMayNotBe(t *testing.T) {
	for _, kind := range noFactors() {
		for n := 2; n <= 10; n++ {
			checkFactor(t, kind, n, 0, api.ErrArg)
		}
		for _, n := range noSizes() {
			checkFactor(t, kind, n, 0, api.ErrArg)
		}
	}
	for _, n := range noSizes() {
		for kind := range 7 {
			checkFactor(t, kind, n, 0, api.ErrRange)
		}
		checkAll(t, n, [7]int{}, api.ErrRange)
	}
}

// P9.2, R2: Nearest of a kind that may not be, whatever the number is.
func TestNearestOfNoFactor(t *testing.T) {
	for _, kind := range noFactors() {
		for _, v := range []int{0, 1, -1, 2, 10, 5770, 11280, 32670, math.MinInt, math.MaxInt} {
			checkNearest(t, kind, v, 0, api.ErrArg)
		}
	}
}

// distance is how far the two are apart, which is more than an int holds at the ends.
func distance(a, b int) *big.Int {
	d := new(big.Int).Sub(big.NewInt(int64(a)), big.NewInt(int64(b)))
	return d.Abs(d)
}

// nearest is the least n that no other one is nearer than.
func nearest(numbers []int, v int) int {
	for i := range numbers {
		if !slices.ContainsFunc(numbers, func(other int) bool { return distance(other, v).Cmp(distance(numbers[i], v)) < 0 }) {
			return i + 2
		}
	}
	panic("one of them is nearest")
}

// looked are the numbers that are looked at, of one line of the table: its own ones, half way between two of them, beyond all, and ends of ints, each with those beside it.
func looked(numbers []int) []int {
	marks := slices.Clone(numbers)
	for _, a := range numbers {
		for _, b := range numbers {
			marks = append(marks, (a+b)/2, (a+b+1)/2)
		}
	}
	from, to := slices.Min(numbers), slices.Max(numbers)
	marks = append(marks, 0, from-1000, to+1000, -from, -to, 1<<31, -1<<31, 1<<32, 1<<62, -1<<62, math.MinInt+2, math.MaxInt-2)
	for _, number := range numbers {
		// From here on the difference to this number is no int.
		marks = append(marks, math.MinInt+number+2)
	}
	var l []int
	for _, mark := range marks {
		l = append(l, mark-2, mark-1, mark, mark+1, mark+2)
	}
	return l
}

// P9.2: at and beside each number of the table, half way between each two, and beyond all.
func TestNearestOfAll(t *testing.T) {
	for kind, numbers := range written(t) {
		for _, v := range looked(numbers) {
			checkNearest(t, kind, v, nearest(numbers, v), api.OK)
		}
	}
}

// P9.2: of each number that a factor may be near to.
func TestNearestOfEachNumber(t *testing.T) {
	for kind, numbers := range written(t) {
		for v := -10; v <= 33000; v++ {
			want, apart := 0, math.MaxInt
			for i, number := range numbers {
				if d := max(number-v, v-number); d < apart {
					want, apart = i+2, d
				}
			}
			checkNearest(t, kind, v, want, api.OK)
		}
	}
}

// P9.2: what is reckoned by hand: of two that are as near the least n is told, whether the factor falls or rises, and no difference wraps.
func TestNearest(t *testing.T) {
	for _, c := range []struct{ kind, v, want int }{
		{api.FA2, 18800, 2}, {api.FA2, 18801, 2}, {api.FA2, 14516, 2}, {api.FA2, 14515, 2}, {api.FA2, 14514, 3},
		{api.FA2, 5770, 5}, {api.FA2, 5301, 5}, {api.FA2, 5300, 5}, {api.FA2, 5299, 6}, {api.FA2, 3225, 9}, {api.FA2, 3224, 10},
		{api.FA2, 3080, 10}, {api.FA2, 3079, 10}, {api.FA2, 0, 10}, {api.FA2, -5770, 10}, {api.FA2, math.MinInt, 10}, {api.FA2, math.MaxInt, 2},
		{api.FD3, 0, 2}, {api.FD3, 1, 2}, {api.FD3, -1, 2}, {api.FD3, 379, 2}, {api.FD3, 380, 2}, {api.FD3, 381, 7}, {api.FD3, 760, 7},
		{api.FD3, 1060, 7}, {api.FD3, 1061, 8}, {api.FD3, 2035, 9}, {api.FD3, 2036, 10}, {api.FD3, 2231, 10}, {api.FD3, math.MinInt, 2}, {api.FD3, math.MaxInt, 10},
		{api.FD4, 32671, 2}, {api.FD4, 29205, 2}, {api.FD4, 29204, 3}, {api.FD4, 17965, 9}, {api.FD4, 17964, 10}, {api.FD4, math.MinInt, 10}, {api.FD4, math.MaxInt, 2},
		{api.FD2, 0, 2}, {api.FD2, 11279, 2}, {api.FD2, 14104, 2}, {api.FD2, 14105, 2}, {api.FD2, 14106, 3}, {api.FD2, 25000, 6}, {api.FD2, 24300, 5}, {api.FD2, 24301, 6},
		{api.FD2, 30240, 9}, {api.FD2, 30241, 10}, {api.FD2, 30781, 10}, {api.FD2, math.MinInt, 2}, {api.FD2, math.MaxInt, 10},
		{api.FA3, 23065, 2}, {api.FA3, 23064, 3}, {api.FA3, 10035, 9}, {api.FA3, 10034, 10}, {api.FA3, math.MinInt, 10}, {api.FA3, math.MaxInt, 2},
		{api.FB3, 0, 2}, {api.FB3, 149, 2}, {api.FB3, 150, 2}, {api.FB3, 151, 6}, {api.FB3, 740, 6}, {api.FB3, 741, 7}, {api.FB3, -300, 2}, {api.FB3, math.MinInt, 2}, {api.FB3, math.MaxInt, 10},
		{api.FB4, 29175, 2}, {api.FB4, 29174, 3}, {api.FB4, 17385, 9}, {api.FB4, 17384, 10}, {api.FB4, math.MinInt, 10}, {api.FB4, math.MaxInt, 2},
	} {
		checkNearest(t, c.kind, c.v, c.want, api.OK)
	}
}

// factorsOf is what Factor tells of the kind, from a row of 2 samples on.
func factorsOf(t *testing.T, kind int) []int {
	t.Helper()
	var l []int
	for n := 2; n <= 10; n++ {
		number, why := Factor(kind, n)
		if why != api.OK {
			t.Errorf("Factor(%d, %d) tells %d", kind, n, why)
		}
		l = append(l, number)
	}
	return l
}

// P9.3: which factors fall, which one rises, and which don't fall, as n rises.
func TestFallAndRise(t *testing.T) {
	falls := func(a, b int) bool { return a > b }
	rises := func(a, b int) bool { return a < b }
	stays := func(a, b int) bool { return a <= b }
	for kind, way := range [7]func(a, b int) bool{
		api.FA2: falls, api.FD4: falls, api.FA3: falls, api.FB4: falls, api.FD2: rises, api.FD3: stays, api.FB3: stays,
	} {
		l := factorsOf(t, kind)
		for i := range 8 {
			if !way(l[i], l[i+1]) {
				t.Errorf("%s is %d of %d, and %d of %d", names[kind], l[i], i+2, l[i+1], i+3)
			}
		}
	}
}

// P9.3: two factors are 20000 together, where the first is above 0; none is below 0.
func TestTwoTogether(t *testing.T) {
	above := map[int]int{}
	for _, pair := range [][2]int{{api.FD3, api.FD4}, {api.FB3, api.FB4}} {
		low, high := factorsOf(t, pair[0]), factorsOf(t, pair[1])
		for i := range low {
			if low[i] < 0 || (low[i] > 0 && low[i]+high[i] != 20000) {
				t.Errorf("%s and %s of %d are %d and %d", names[pair[0]], names[pair[1]], i+2, low[i], high[i])
			}
			if low[i] > 0 {
				above[pair[0]]++
			}
		}
	}
	if above[api.FD3] != 4 || above[api.FB3] != 5 {
		t.Errorf("above 0 are %v", above)
	}
}

// P9.3: FA2 times FD2, squared, times n, is 9 times 10^16, but for a third of a hundredth at most.
func TestRangesAndSpread(t *testing.T) {
	const wanted, off = 90_000_000_000_000_000, 300_000_000_000_000
	a2, d2 := factorsOf(t, api.FA2), factorsOf(t, api.FD2)
	for i := range a2 {
		product := big.NewInt(int64(a2[i] * d2[i]))
		product.Mul(product, product).Mul(product, big.NewInt(int64(i+2)))
		if product.Sub(product, big.NewInt(wanted)).CmpAbs(big.NewInt(off)) > 0 {
			t.Errorf("of %d samples it is %v more", i+2, product)
		}
	}
}

// P9.1 and P9.2: the chapter's examples.
func TestExamples(t *testing.T) {
	checkFactor(t, api.FA2, 5, 5770, api.OK)
	checkNearest(t, api.FD2, 25000, 6, api.OK)
}

// questions are calls with their right answers, refused ones among them.
func questions(t *testing.T) []func() bool {
	t.Helper()
	var l []func() bool
	factor := func(kind, n, want int, why api.Errno) {
		l = append(l, func() bool { got, told := Factor(kind, n); return got == want && told == why })
	}
	all := func(n int, want [7]int, why api.Errno) {
		l = append(l, func() bool { got, told := All(n); return got == want && told == why })
	}
	near := func(kind, v, want int, why api.Errno) {
		l = append(l, func() bool { got, told := Nearest(kind, v); return got == want && told == why })
	}
	table := written(t)
	for i := range 9 {
		var row [7]int
		for kind := range table {
			row[kind] = table[kind][i]
			factor(kind, i+2, row[kind], api.OK)
			near(kind, row[kind], nearest(table[kind], row[kind]), api.OK)
		}
		all(i+2, row, api.OK)
	}
	for _, kind := range noFactors() {
		factor(kind, 5, 0, api.ErrArg)
		near(kind, 5770, 0, api.ErrArg)
	}
	for _, n := range noSizes() {
		factor(api.FA2, n, 0, api.ErrRange)
		all(n, [7]int{}, api.ErrRange)
	}
	return l
}

// R1: calls in any order, many times over, answer the same.
func TestCallsInAnyOrder(t *testing.T) {
	draw := rand.New(rand.NewSource(9))
	l := questions(t)
	for range 50 {
		for _, i := range draw.Perm(len(l)) {
			if !l[i]() {
				t.Fatalf("question %d has another answer", i)
			}
		}
	}
}

// R1: calls of several goroutines at once answer the same.
func TestCallsAtOnce(t *testing.T) {
	l := questions(t)
	var begun, ended sync.WaitGroup
	begun.Add(1)
	for g := range 16 {
		ended.Go(func() {
			begun.Wait()
			draw := rand.New(rand.NewSource(int64(g)))
			for range 20 {
				for _, i := range draw.Perm(len(l)) {
					if !l[i]() {
						t.Errorf("question %d has another answer in goroutine %d", i, g)
						return
					}
				}
			}
		})
	}
	begun.Done()
	ended.Wait()
}

// R1, R4: what All answers is the caller's own.
func TestWhatIsAnsweredIsItsOwn(t *testing.T) {
	first, _ := All(5)
	for kind := range first {
		first[kind] = -1
	}
	checkAll(t, 5, [7]int{5770, 0, 21140, 23260, 14270, 0, 20890}, api.OK)
}
