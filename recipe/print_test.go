package recipe

import (
	"math/rand"
	"strings"
	"testing"

	"datum/api"
)

// checkPrint holds Print's text against what is wanted.
func checkPrint(t *testing.T, r api.Recipe, want string) {
	t.Helper()
	if text, why := Print(r); text != want || why != api.OK {
		t.Errorf("Print(%v) = %q, %d; want %q", r, text, why, want)
	}
}

// checkAgain holds that the recipe may be, and is printed, and parsed as it was.
func checkAgain(t *testing.T, r api.Recipe) {
	t.Helper()
	text, why := Print(r)
	if !Right(r) || why != api.OK {
		t.Errorf("%v may not be, or is not printed: %d", r, why)
		return
	}
	checkParse(t, text, r, 0, api.OK)
}

// P8.2: each chart, byte by byte.
func TestPrint(t *testing.T) {
	for _, x := range []struct {
		c    api.Channel
		want string
	}{
		{api.Channel{Name: "a", Chart: api.CXbar, Size: 5, Low: -10, High: 20, Base: 3, Cap: 90},
			"channel a xbar {\nsize 5;\nlow -10;\nhigh 20;\nbase 3;\ncap 90;\n}\n"},
		{api.Channel{Name: "single", Chart: api.CSingle, Low: 0, High: 1000000, Base: 25, Cap: 1000000000},
			"channel single single {\nlow 0;\nhigh 1000000;\nbase 25;\ncap 1000000000;\n}\n"},
		{api.Channel{Name: "abcdefghijkl", Chart: api.CP, Size: 1000, Base: 2, Cap: 1},
			"channel abcdefghijkl p {\nsize 1000;\nbase 2;\ncap 1;\n}\n"},
		{api.Channel{Name: "b", Chart: api.CNp, Size: 1, Base: 2, Cap: 9},
			"channel b np {\nsize 1;\nbase 2;\ncap 9;\n}\n"},
		{api.Channel{Name: "channel", Chart: api.CC, Base: 5, Cap: 9},
			"channel channel c {\nbase 5;\ncap 9;\n}\n"},
		{api.Channel{Name: "u", Chart: api.CU, Size: 7, Base: 5, Cap: 9},
			"channel u u {\nsize 7;\nbase 5;\ncap 9;\n}\n"},
		{api.Channel{Name: "d", Chart: api.CCusum, Low: -1000000, High: -999999, Cap: 9, Target: 0, Step: 0, Bound: 1000000000},
			"channel d cusum {\nlow -1000000;\nhigh -999999;\ncap 9;\ntarget 0;\nstep 0;\nbound 1000000000;\n}\n"},
		{api.Channel{Name: "e", Chart: api.CEwma, Low: 1, High: 2, Cap: 9, Target: -7, Weight: 99, Sigma: 1000000},
			"channel e ewma {\nlow 1;\nhigh 2;\ncap 9;\ntarget -7;\nweight 99;\nsigma 1000000;\n}\n"},
		{api.Channel{Name: "a", Chart: api.CXbar, Size: 2, Low: 1, High: 2, Base: 3, Cap: 4, Lower: -5, Upper: 6},
			"channel a xbar {\nsize 2;\nlow 1;\nhigh 2;\nbase 3;\ncap 4;\nlower -5;\nupper 6;\n}\n"},
		{api.Channel{Name: "a", Chart: api.CSingle, Low: 1, High: 2, Base: 3, Cap: 4, Lower: 0, Upper: 6},
			"channel a single {\nlow 1;\nhigh 2;\nbase 3;\ncap 4;\nlower 0;\nupper 6;\n}\n"},
		{api.Channel{Name: "a", Chart: api.CSingle, Low: 1, High: 2, Base: 3, Cap: 4, Lower: -6, Upper: 0},
			"channel a single {\nlow 1;\nhigh 2;\nbase 3;\ncap 4;\nlower -6;\nupper 0;\n}\n"},
		{api.Channel{Name: "a", Chart: api.CXbar, Size: 10, Low: -1, High: 0, Base: 3, Cap: 4, Lower: 0, Upper: 1},
			"channel a xbar {\nsize 10;\nlow -1;\nhigh 0;\nbase 3;\ncap 4;\nlower 0;\nupper 1;\n}\n"},
		{api.Channel{Name: "a", Chart: api.CXbar, Size: 10, Low: -1, High: 0, Base: 3, Cap: 4, Lower: -1000000, Upper: 1000000},
			"channel a xbar {\nsize 10;\nlow -1;\nhigh 0;\nbase 3;\ncap 4;\nlower -1000000;\nupper 1000000;\n}\n"},
	} {
		checkPrint(t, of(x.c), x.want)
		checkAgain(t, of(x.c))
		y := plain("yy", api.CNp)
		const lines = "channel yy np {\nsize 5;\nbase 3;\ncap 90;\n}\n"
		checkPrint(t, of(x.c, y), x.want+lines)
		checkPrint(t, of(y, x.c), lines+x.want)
	}
}

// P8.2: four channels are told in their own order.
func TestPrintOfFour(t *testing.T) {
	checkPrint(t, of(plain("z", api.CC), plain("a", api.CU), plain("y", api.CC), plain("b", api.CP)),
		"channel z c {\nbase 3;\ncap 90;\n}\nchannel a u {\nsize 5;\nbase 3;\ncap 90;\n}\nchannel y c {\nbase 3;\ncap 90;\n}\nchannel b p {\nsize 5;\nbase 3;\ncap 90;\n}\n")
}

// P8.3, P6: the longest texts that may be printed can be parsed, too.
func TestPrintOfTheLongest(t *testing.T) {
	for chart := range api.Charts {
		var l []api.Channel
		for _, name := range []string{"abcdefghijkl", "bbbbbbbbbbbb", "cccccccccccc", "dddddddddddd"} {
			c := plain(name, chart)
			for _, e := range needs[chart] {
				c = with(c, e.word, e.to)
			}
			if _, need := endsOf(needs[chart], "low"); need {
				c.Low, c.High = -million, -million+1
			}
			if mayAsk(chart) {
				c.Lower, c.Upper = -million, -million+1
			}
			l = append(l, c)
		}
		checkAgain(t, of(l...))
	}
}

// P8.3, P6: what is printed is parsed as it was: every chart, and recipes that are drawn.
func TestWhatIsPrintedIsParsed(t *testing.T) {
	for chart := range api.Charts {
		checkAgain(t, of(plain("a", chart)))
		for other := range api.Charts {
			checkAgain(t, of(plain("a", chart), plain("b", other), plain("c", chart)))
		}
	}
	draw := rand.New(rand.NewSource(83))
	for range 3000 {
		checkAgain(t, drawnRecipe(draw))
	}
}

// P8.3: blanks do not matter, but for the places.
func TestBlanksDoNotMatter(t *testing.T) {
	r := of(plain("a", api.CXbar), plain("b", api.CCusum))
	text, _ := Print(r)
	for _, blank := range []string{"  ", "\t", "\r\n", "# }\n", " # x\n\n"} {
		checkParse(t, blank+strings.NewReplacer(" ", blank, "\n", blank, ";", blank+";").Replace(text)+blank, r, 0, api.OK)
	}
}
