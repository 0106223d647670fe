package recipe

import (
	"slices"

	"datum/api"
)

// maxBound is the greatest Bound that may be.
const maxBound = 1000000000

// field is a number that channels of these charts need, or may have: its word, and its ends.
type field struct {
	word   string
	from   int
	to     int
	charts []int
	need   bool
}

// fields are all fields, in the order in which they are told. Size has two rows, as its ends are others of `xbar`.
func fields() []field {
	const most = api.MaxSample
	all := []int{api.CXbar, api.CSingle, api.CP, api.CNp, api.CC, api.CU, api.CCusum, api.CEwma}
	learn := []int{api.CXbar, api.CSingle, api.CP, api.CNp, api.CC, api.CU}
	measure := []int{api.CXbar, api.CSingle, api.CCusum, api.CEwma}
	aim := []int{api.CCusum, api.CEwma}
	ask := []int{api.CXbar, api.CSingle}
	return []field{
		{"size", 2, api.MaxGroup, []int{api.CXbar}, true},
		{"size", 1, api.MaxUnits, []int{api.CP, api.CNp, api.CU}, true},
		{"low", -most, most, measure, true},
		{"high", -most, most, measure, true},
		{"base", 2, api.MaxBase, learn, true},
		{"cap", 1, api.MaxCap, all, true},
		{"target", -most, most, aim, true},
		{"step", 0, most, []int{api.CCusum}, true},
		{"bound", 1, maxBound, []int{api.CCusum}, true},
		{"weight", 1, api.MaxWeight, []int{api.CEwma}, true},
		{"sigma", 1, most, []int{api.CEwma}, true},
		{"lower", -most, most, ask, false},
		{"upper", -most, most, ask, false},
	}
}

// places are where the channel keeps its fields, by their words.
func places(c *api.Channel) map[string]*int {
	return map[string]*int{
		"size":   &c.Size,
		"low":    &c.Low,
		"high":   &c.High,
		"base":   &c.Base,
		"cap":    &c.Cap,
		"target": &c.Target,
		"step":   &c.Step,
		"bound":  &c.Bound,
		"weight": &c.Weight,
		"sigma":  &c.Sigma,
		"lower":  &c.Lower,
		"upper":  &c.Upper,
	}
}

// chartWords are the charts' words, by their numbers.
func chartWords() [api.Charts]string {
	return [...]string{
		api.CXbar:   "xbar",
		api.CSingle: "single",
		api.CP:      "p",
		api.CNp:     "np",
		api.CC:      "c",
		api.CU:      "u",
		api.CCusum:  "cusum",
		api.CEwma:   "ewma",
	}
}

// fieldsOf are the fields that the chart needs or may have, in order.
func fieldsOf(chart int) []field {
	return slices.DeleteFunc(fields(), func(f field) bool { return !slices.Contains(f.charts, chart) })
}

// told are the fields that are told of the channel, in order. Lower and Upper, where they are told, are never both 0, as one is less than the other.
func told(c api.Channel) []field {
	neither := c.Lower == 0 && c.Upper == 0
	return slices.DeleteFunc(fieldsOf(c.Chart), func(f field) bool { return !f.need && neither })
}

// fits is whether the number is within the field's ends.
func (f field) fits(num int) bool { return f.from <= num && num <= f.to }

// find is which of the fields has the word, or -1.
func find(l []field, word string) int {
	return slices.IndexFunc(l, func(f field) bool { return f.word == word })
}

// have is whether one of the fields has the word.
func have(l []field, word string) bool { return find(l, word) >= 0 }

// lacks is whether the fields are too few for a channel of the chart.
func lacks(chart int, l []field) bool {
	for _, f := range fieldsOf(chart) {
		if f.need && !have(l, f.word) {
			return true
		}
	}
	return have(l, "lower") != have(l, "upper")
}

// inOrder is whether each lower end of the channel, where it has these fields, is less than the upper one.
func inOrder(c api.Channel, has []field) bool {
	if have(has, "low") && c.Low >= c.High {
		return false
	}
	return !have(has, "lower") || c.Lower < c.Upper
}
