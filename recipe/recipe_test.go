package recipe

import (
	"math"
	"slices"
	"strings"
	"testing"

	"datum/api"
)

const (
	least    = math.MinInt
	greatest = math.MaxInt
	million  = 1000000
	billion  = 1000000000
)

// ends are a field's word, and from where to where its number may be.
type ends struct {
	word     string
	from, to int
}

// has is whether the number is within the ends.
func (e ends) has(num int) bool { return e.from <= num && num <= e.to }

// chartNames are the charts' words, by their numbers.
var chartNames = []string{"xbar", "single", "p", "np", "c", "u", "cusum", "ewma"}

// needs are the fields that each chart needs, in order.
var needs = [][]ends{
	{{"size", 2, 10}, {"low", -million, million}, {"high", -million, million}, {"base", 2, 25}, {"cap", 1, billion}},
	{{"low", -million, million}, {"high", -million, million}, {"base", 2, 25}, {"cap", 1, billion}},
	{{"size", 1, 1000}, {"base", 2, 25}, {"cap", 1, billion}},
	{{"size", 1, 1000}, {"base", 2, 25}, {"cap", 1, billion}},
	{{"base", 2, 25}, {"cap", 1, billion}},
	{{"size", 1, 1000}, {"base", 2, 25}, {"cap", 1, billion}},
	{{"low", -million, million}, {"high", -million, million}, {"cap", 1, billion}, {"target", -million, million}, {"step", 0, million}, {"bound", 1, billion}},
	{{"low", -million, million}, {"high", -million, million}, {"cap", 1, billion}, {"target", -million, million}, {"weight", 1, 99}, {"sigma", 1, million}},
}

// asked are the fields that charts of values may have.
var asked = []ends{{"lower", -million, million}, {"upper", -million, million}}

// allWords are the words of all fields, in order.
var allWords = []string{"size", "low", "high", "base", "cap", "target", "step", "bound", "weight", "sigma", "lower", "upper"}

// mayAsk is whether channels of the chart may have Lower and Upper.
func mayAsk(chart int) bool { return chart == api.CXbar || chart == api.CSingle }

// mayHave are the fields that the chart needs or may have, in order.
func mayHave(chart int) []ends {
	if mayAsk(chart) {
		return slices.Concat(needs[chart], asked)
	}
	return needs[chart]
}

// endsOf are the ends of one of the fields.
func endsOf(l []ends, word string) (ends, bool) {
	i := slices.IndexFunc(l, func(e ends) bool { return e.word == word })
	if i < 0 {
		return ends{}, false
	}
	return l[i], true
}

// number is the channel's number that has the word.
func number(c api.Channel, word string) int {
	nums := []int{c.Size, c.Low, c.High, c.Base, c.Cap, c.Target, c.Step, c.Bound, c.Weight, c.Sigma, c.Lower, c.Upper}
	return nums[slices.Index(allWords, word)]
}

// with is the channel with another number for a field.
func with(c api.Channel, word string, num int) api.Channel {
	switch word {
	case "size":
		c.Size = num
	case "low":
		c.Low = num
	case "high":
		c.High = num
	case "base":
		c.Base = num
	case "cap":
		c.Cap = num
	case "target":
		c.Target = num
	case "step":
		c.Step = num
	case "bound":
		c.Bound = num
	case "weight":
		c.Weight = num
	case "sigma":
		c.Sigma = num
	case "lower":
		c.Lower = num
	case "upper":
		c.Upper = num
	}
	return c
}

// plain is a channel of the chart that may be, without Lower and Upper.
func plain(name string, chart int) api.Channel {
	c := api.Channel{Name: name, Chart: chart}
	nums := map[string]int{"size": 5, "low": -10, "high": 20, "base": 3, "cap": 90, "target": 7, "step": 0, "bound": 4, "weight": 30, "sigma": 2}
	for _, e := range needs[chart] {
		c = with(c, e.word, nums[e.word])
	}
	return c
}

// of is a recipe of the channels.
func of(l ...api.Channel) api.Recipe { return api.Recipe{Channels: l} }

// checkRight holds what Right and Print tell of the recipe against whether it may be.
func checkRight(t *testing.T, r api.Recipe, want bool) {
	t.Helper()
	if Right(r) != want {
		t.Errorf("Right(%.200v) = %t", r, !want)
	}
	text, why := Print(r)
	if (why == api.OK) != want || (text != "") != want || !want && why != api.ErrArg {
		t.Errorf("Print(%.200v) = %q, %d; that it may be is %t", r, text, why, want)
	}
}

// checkChannel holds what is told of a recipe of the channel alone, and of it behind and ahead of others, against whether it may be.
func checkChannel(t *testing.T, c api.Channel, want bool) {
	t.Helper()
	y, z := plain("yy", api.CSingle), plain("zz", api.CP)
	checkRight(t, of(c), want)
	checkRight(t, of(c, y), want)
	checkRight(t, of(y, c), want)
	checkRight(t, of(y, c, z), want)
}

// P8.1: each field at its ends, one beyond them, and farther.
func TestRightAtEndsOfFields(t *testing.T) {
	for chart := range api.Charts {
		c := plain("a", chart)
		checkChannel(t, c, true)
		for _, e := range needs[chart] {
			// The other end of samples is out of the way, so that one alone is looked at.
			room, from, to := c, e.from, e.to
			switch e.word {
			case "low":
				room.High, to = million, million-1
			case "high":
				room.Low, from = -million, 1-million
			}
			for _, num := range []int{from, from + 1, to - 1, to} {
				checkChannel(t, with(room, e.word, num), true)
			}
			for _, num := range []int{e.from - 1, e.to + 1, e.from - 1000, e.to + 1000, least, greatest, least + 1, greatest - 1, 1 << 32, -1 << 32} {
				checkChannel(t, with(room, e.word, num), false)
			}
		}
	}
}

// P8.1: the ends of Size are others of `xbar`.
func TestRightOfSize(t *testing.T) {
	for chart := range api.Charts {
		_, need := endsOf(needs[chart], "size")
		for _, num := range []int{-1, 0, 1, 2, 10, 11, 1000, 1001} {
			want := num == 0
			if need {
				want = 1 <= num && num <= 1000
			}
			if chart == api.CXbar {
				want = 2 <= num && num <= 10
			}
			checkChannel(t, with(plain("a", chart), "size", num), want)
		}
	}
}

// P8.1: a field that the chart needs is not 0, if 0 is not within its ends; one that it doesn't need is 0.
func TestRightOfFieldsThatAreNotNeeded(t *testing.T) {
	for chart := range api.Charts {
		c := plain("a", chart)
		for _, word := range allWords {
			if e, need := endsOf(needs[chart], word); need {
				checkChannel(t, with(c, word, 0), e.has(0))
				continue
			}
			checkChannel(t, with(c, word, 0), true)
			if _, may := endsOf(mayHave(chart), word); may {
				continue
			}
			for _, num := range []int{1, -1, 2, 5, 99, million, -million, billion, least, greatest} {
				checkChannel(t, with(c, word, num), false)
			}
		}
	}
}

// around are numbers at, and around, the ends of samples, and at 0.
func around() []int {
	return []int{least, -million - 1, -million, 1 - million, -1, 0, 1, million - 1, million, million + 1, greatest}
}

// P8.1: Low is less than High, where the chart needs them, and both are 0 elsewhere.
func TestRightOfLowAndHigh(t *testing.T) {
	for chart := range api.Charts {
		e, need := endsOf(needs[chart], "low")
		for _, low := range around() {
			for _, high := range around() {
				want := low == 0 && high == 0
				if need {
					want = low < high && e.has(low) && e.has(high)
				}
				checkChannel(t, with(with(plain("a", chart), "low", low), "high", high), want)
			}
		}
	}
}

// P8.1: Lower and Upper are both 0; charts of values may have others, of which Lower is less than Upper.
func TestRightOfLowerAndUpper(t *testing.T) {
	for chart := range api.Charts {
		for _, lower := range around() {
			for _, upper := range around() {
				want := lower == 0 && upper == 0
				if mayAsk(chart) && !want {
					want = lower < upper && asked[0].has(lower) && asked[1].has(upper)
				}
				checkChannel(t, with(with(plain("a", chart), "lower", lower), "upper", upper), want)
			}
		}
	}
}

// P8.1: Lower and Upper have nothing to do with Low and High.
func TestRightOfAllEnds(t *testing.T) {
	for _, chart := range []int{api.CXbar, api.CSingle} {
		c := plain("a", chart)
		c.Low, c.High, c.Lower, c.Upper = 5, 6, -20, -10
		checkChannel(t, c, true)
		c.Lower, c.Upper = -100, 100
		checkChannel(t, c, true)
		c.Low, c.High = 6, 5
		checkChannel(t, c, false)
		c.Low, c.High, c.Lower, c.Upper = 5, 6, 6, 5
		checkChannel(t, c, false)
	}
}

// P8.1: a Chart below 0, and above 7.
func TestRightOfChart(t *testing.T) {
	for _, chart := range []int{-1, -2, -8, 8, 9, 15, 64, 256, 1 << 32, least, greatest} {
		for like := range api.Charts {
			c := plain("a", like)
			c.Chart = chart
			checkChannel(t, c, false)
		}
		checkChannel(t, api.Channel{Name: "a", Chart: chart}, false)
		checkChannel(t, api.Channel{Name: "a", Chart: chart, Cap: 9}, false)
	}
	for chart := range api.Charts {
		checkChannel(t, api.Channel{Name: "a", Chart: chart}, false)
	}
}

// P8.1: a Name is a word, whatever else that word is.
func TestRightOfName(t *testing.T) {
	names := []string{"a", "z", "abcdefghijkl", "zzzzzzzzzzzz", "channel"}
	for _, name := range slices.Concat(names, chartNames, allWords) {
		checkChannel(t, plain(name, api.CC), true)
	}
	for _, name := range []string{"", "abcdefghijklm", strings.Repeat("a", 256), strings.Repeat("a", 100000), "A", "aB", "a1", "1", "-5",
		"a b", " a", "a ", "a\n", "a#", "{", "}", ";", "a;", "`", "a{", "\x00", "a\x00", "\xff", "é", "a\u0141"} {
		for chart := range api.Charts {
			checkChannel(t, plain(name, chart), false)
		}
	}
}

// P8.1: 1 to 4 channels.
func TestRightOfManyChannels(t *testing.T) {
	var l []api.Channel
	checkRight(t, api.Recipe{}, false)
	checkRight(t, of(l...), false)
	checkRight(t, api.Recipe{Channels: []api.Channel{}}, false)
	for i, name := range []string{"a", "b", "c", "d", "e", "f", "g", "h", "i", "j"} {
		l = append(l, plain(name, i%api.Charts))
		checkRight(t, of(l...), i < 4)
	}
	checkRight(t, of(slices.Repeat(l, 10000)...), false)
}

// P8.1: no two channels of one Name, side by side and apart, and whatever their charts are.
func TestRightOfOneName(t *testing.T) {
	for n := 2; n <= 4; n++ {
		for j := range n {
			for i := range j {
				var l []api.Channel
				for k, name := range []string{"a", "ab", "b", "abc"}[:n] {
					l = append(l, plain(name, (k+5)%api.Charts))
				}
				checkRight(t, of(l...), true)
				l[j].Name = l[i].Name
				checkRight(t, of(l...), false)
				l[j] = l[i]
				checkRight(t, of(l...), false)
			}
		}
	}
}

// P8.1: a channel that may not be, at each place.
func TestRightOfOneThatMayNotBe(t *testing.T) {
	for wrongOne := range 4 {
		l := []api.Channel{plain("a", 0), plain("b", 3), plain("c", 6), plain("d", 7)}
		checkRight(t, of(l...), true)
		l[wrongOne].Cap = 0
		checkRight(t, of(l...), false)
	}
}
