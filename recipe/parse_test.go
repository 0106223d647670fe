package recipe

import (
	"math/rand"
	"reflect"
	"slices"
	"strconv"
	"strings"
	"testing"

	"datum/api"
	"datum/token"
)

// same is whether two recipes are the same; a list without channels may be nil or empty.
func same(a, b api.Recipe) bool { return slices.Equal(a.Channels, b.Channels) }

// checkParse holds Parse's answer against what is wanted.
func checkParse(t *testing.T, text string, want api.Recipe, place int, why api.Errno) {
	t.Helper()
	r, at, told := Parse(text)
	if !same(r, want) || at != place || told != why {
		t.Errorf("Parse(%q) = %v, %d, %d; want %v, %d, %d", text, r, at, told, want, place, why)
	}
}

// checkParsed holds that the text has these channels.
func checkParsed(t *testing.T, text string, l ...api.Channel) {
	t.Helper()
	checkParse(t, text, of(l...), 0, api.OK)
}

// checkAlone holds that what is wrong with the text is told, and at the place that a `@` marks.
func checkAlone(t *testing.T, marked string, why api.Errno) {
	t.Helper()
	ahead, behind, ok := strings.Cut(marked, "@")
	if !ok {
		t.Fatalf("no place is marked in %q", marked)
	}
	checkParse(t, ahead+behind, api.Recipe{}, len(ahead), why)
}

// others are channels that texts are put behind, of names of their own.
var others = []string{
	"channel yy c { base 5; cap 9; }\n",
	"channel yyy xbar{size 2;low 0;high 1;base 2;cap 1;upper 5;lower 0;}",
	"channel\tyyyy # x\ncusum { bound 1; step 0; target 0; cap 1; high 1; low 0; } ",
}

// checkWrong holds that what is wrong with the text is told of it alone, and behind other channels.
func checkWrong(t *testing.T, marked string, why api.Errno) {
	t.Helper()
	for n := range len(others) + 1 {
		checkAlone(t, strings.Join(others[:n], "")+marked, why)
	}
}

// filling is the text of the channel's fields that have these words, in this order.
func filling(c api.Channel, words []string) string {
	var text strings.Builder
	for _, word := range words {
		text.WriteString(" " + word + " " + strconv.Itoa(number(c, word)) + ";")
	}
	return text.String()
}

// wordsOf are the fields' words.
func wordsOf(l []ends) []string {
	var words []string
	for _, e := range l {
		words = append(words, e.word)
	}
	return words
}

// textOf is the text of a channel, with these fields.
func textOf(c api.Channel, words []string) string {
	return "channel " + c.Name + " " + chartNames[c.Chart] + " {" + filling(c, words) + " }"
}

// expected is what Parse should tell of the text, found token by token, each by what is to come.
func expected(text string) (api.Recipe, int, api.Errno) {
	l, place, why := token.Scan(text)
	if why != api.OK {
		return api.Recipe{}, place, why
	}
	var r api.Recipe
	var c api.Channel
	var came map[string]bool
	var word string
	step := "channel"
	for _, x := range append(l, api.Token{At: len(text)}) {
		why := api.OK
		switch step {
		case "channel":
			if x.Kind == 0 && len(r.Channels) > 0 {
				return r, 0, api.OK
			}
			if x.Kind != api.TWord || x.Text != "channel" {
				why = api.ErrWord
			} else if len(r.Channels) == 4 {
				why = api.ErrSize
			}
			c, came, step = api.Channel{}, map[string]bool{}, "name"
		case "name":
			if x.Kind != api.TWord {
				why = api.ErrWord
			}
			for _, ahead := range r.Channels {
				if x.Kind == api.TWord && ahead.Name == x.Text {
					why = api.ErrTwice
				}
			}
			c.Name, step = x.Text, "chart"
		case "chart":
			c.Chart = slices.Index(chartNames, x.Text)
			if c.Chart < 0 {
				why = api.ErrWord
			}
			step = "{"
		case "{":
			if x.Kind != api.TOpen {
				why = api.ErrWord
			}
			step = "field"
		case "field":
			if x.Kind == api.TClose {
				why = expectedEnd(c, came)
				r.Channels, step = append(r.Channels, c), "channel"
				break
			}
			if _, ok := endsOf(mayHave(c.Chart), x.Text); !ok {
				why = api.ErrWord
			} else if came[x.Text] {
				why = api.ErrTwice
			}
			word, step = x.Text, "number"
		case "number":
			if x.Kind != api.TNumber {
				why = api.ErrWord
			} else if e, _ := endsOf(mayHave(c.Chart), word); !e.has(x.Num) {
				why = api.ErrRange
			}
			c, step = with(c, word, x.Num), ";"
		case ";":
			if x.Kind != api.TEnd {
				why = api.ErrWord
			}
			came[word], step = true, "field"
		}
		if why != api.OK {
			return api.Recipe{}, x.At, why
		}
	}
	panic("the text's end is always told")
}

// expectedEnd is what should be told where the channel ends.
func expectedEnd(c api.Channel, came map[string]bool) api.Errno {
	for _, e := range needs[c.Chart] {
		if !came[e.word] {
			return api.ErrLack
		}
	}
	switch {
	case came["lower"] != came["upper"]:
		return api.ErrLack
	case came["low"] && c.Low >= c.High, came["lower"] && c.Lower >= c.Upper:
		return api.ErrRange
	}
	return api.OK
}

// checkExpected holds Parse's answer against what is expected; what is parsed may be, and is printed, and parsed again, as it is.
func checkExpected(t *testing.T, text string) api.Errno {
	t.Helper()
	want, place, why := expected(text)
	checkParse(t, text, want, place, why)
	if why == api.OK {
		checkAgain(t, want)
	}
	return why
}

// P8.1: each chart, with and without Lower and Upper.
func TestParse(t *testing.T) {
	var all []string
	for chart := range api.Charts {
		c := plain("a", chart)
		words := wordsOf(needs[chart])
		checkParsed(t, textOf(c, words), c)
		all = append(all, textOf(c, words))
		if mayAsk(chart) {
			c.Lower, c.Upper = -3, 4
			checkParsed(t, textOf(c, wordsOf(mayHave(chart))), c)
		}
	}
	checkParsed(t, strings.ReplaceAll(all[0], " a ", " b ")+"\n"+all[4], plain("b", api.CXbar), plain("a", api.CC))
	checkParsed(t, "channel a c{base 5;cap 9;}channel b p{size 1;base 2;cap 1;}channel channel u{cap 1000000000;size 1000;base 25;}channel size np{size 7;base 2;cap 3;}",
		api.Channel{Name: "a", Chart: api.CC, Base: 5, Cap: 9},
		api.Channel{Name: "b", Chart: api.CP, Size: 1, Base: 2, Cap: 1},
		api.Channel{Name: "channel", Chart: api.CU, Size: 1000, Base: 25, Cap: billion},
		api.Channel{Name: "size", Chart: api.CNp, Size: 7, Base: 2, Cap: 3})
	checkParsed(t, "# a\nchannel\ta\r\nc#\n{ base#5\n5#;\n; cap 9 ; } # }",
		api.Channel{Name: "a", Chart: api.CC, Base: 5, Cap: 9})
}

// P8.1: the chapter's examples.
func TestExamples(t *testing.T) {
	checkParsed(t, "channel a c { base 5; cap 9; }", api.Channel{Name: "a", Chart: api.CC, Base: 5, Cap: 9})
	checkParse(t, "channel a c { base 5; }", api.Recipe{}, 22, api.ErrLack)
}

// P8.1: fields in any order.
func TestParseOfAnyOrder(t *testing.T) {
	draw := rand.New(rand.NewSource(8))
	for chart := range api.Charts {
		c := plain("a", chart)
		if mayAsk(chart) {
			c.Lower, c.Upper = -3, 4
		}
		words := wordsOf(mayHave(chart))
		slices.Reverse(words)
		checkParsed(t, textOf(c, words), c)
		for range 200 {
			draw.Shuffle(len(words), func(i, j int) { words[i], words[j] = words[j], words[i] })
			checkParsed(t, textOf(c, words), c)
		}
	}
}

// P8.1: each field's number at its ends, and beyond them; the number's place is told, ahead of what is wrong behind it.
func TestParseAtEndsOfFields(t *testing.T) {
	for chart := range api.Charts {
		for _, e := range mayHave(chart) {
			c := plain("a", chart)
			from, to := e.from, e.to
			switch e.word {
			case "low":
				c.High, to = million, million-1
			case "high":
				c.Low, from = -million, 1-million
			case "lower":
				c.Upper, to = million, million-1
			case "upper":
				c.Lower, from = -million, 1-million
			}
			words := wordsOf(needs[chart])
			if _, need := endsOf(needs[chart], e.word); !need {
				words = wordsOf(mayHave(chart))
			}
			for _, num := range []int{from, from + 1, to - 1, to} {
				checkParsed(t, textOf(with(c, e.word, num), words), with(c, e.word, num))
			}
			head := "channel a " + chartNames[chart] + " { " + e.word + " @"
			for _, num := range []int{e.from - 1, e.to + 1, e.from - 1000, e.to + 1000, -billion, billion} {
				if e.has(num) {
					continue
				}
				for _, behind := range []string{";", " }", "", " 5", " " + e.word + " ;"} {
					checkWrong(t, head+strconv.Itoa(num)+behind, api.ErrRange)
				}
			}
		}
	}
}

// P8.1: at `}`, each field that is lacking, also where another one is out of order.
func TestParseOfWhatIsLacking(t *testing.T) {
	for chart := range api.Charts {
		c := plain("a", chart)
		head := "channel a " + chartNames[chart] + " {"
		checkWrong(t, head+"@}", api.ErrLack)
		checkWrong(t, head+" @} channel", api.ErrLack)
		words := wordsOf(needs[chart])
		for i, word := range words {
			rest := slices.Delete(slices.Clone(words), i, i+1)
			checkWrong(t, head+filling(c, rest)+" @}", api.ErrLack)
			if word != "low" && word != "high" && slices.Contains(words, "low") {
				checkWrong(t, head+filling(with(c, "low", c.High), rest)+" @}", api.ErrLack)
			}
			if mayAsk(chart) {
				checkWrong(t, head+filling(c, rest)+" lower 2; upper 3; @}", api.ErrLack)
				checkWrong(t, head+filling(c, rest)+" lower 3; upper 3; @}", api.ErrLack)
			}
		}
		if mayAsk(chart) {
			for _, one := range []string{" lower 0;", " upper 0;", " lower -5;", " upper 5;"} {
				checkWrong(t, head+filling(c, words)+one+" @}", api.ErrLack)
				checkWrong(t, head+one+filling(c, words)+"@}", api.ErrLack)
				checkWrong(t, head+filling(with(c, "low", c.High), words)+one+" @}", api.ErrLack)
			}
		}
	}
}

// P8.1: at `}`, ends out of order: Low and High, and Lower and Upper, also if both came as 0.
func TestParseOfEndsOutOfOrder(t *testing.T) {
	for chart := range api.Charts {
		head, words := "channel a "+chartNames[chart]+" {", wordsOf(needs[chart])
		for _, low := range around()[1:10] {
			for _, high := range around()[1:10] {
				checkExpected(t, head+filling(with(with(plain("a", chart), "low", low), "high", high), words)+" }")
				checkExpected(t, head+filling(plain("a", chart), words)+" lower "+strconv.Itoa(low)+"; upper "+strconv.Itoa(high)+"; }")
			}
		}
	}
	const head = "channel a single { base 2; cap 9; "
	checkWrong(t, head+"low 5; high 5; @}", api.ErrRange)
	checkWrong(t, head+"high 5; low 6; @}", api.ErrRange)
	checkWrong(t, head+"high 0; low 0; @}", api.ErrRange)
	checkWrong(t, head+"low 5; high 6; lower 7; upper 7; @}", api.ErrRange)
	checkWrong(t, head+"low 5; high 6; lower 8; upper 7; @}", api.ErrRange)
	checkWrong(t, head+"low 5; high 6; lower 0; upper 0; @}", api.ErrRange)
	checkWrong(t, head+"low 5; high 5; lower 0; upper 1; @}", api.ErrRange)
	c := api.Channel{Name: "a", Chart: api.CSingle, Low: 5, High: 6, Base: 2, Cap: 9}
	c.Lower, c.Upper = 0, 1
	checkParsed(t, head+"low 5; high 6; lower 0; upper 1; }", c)
	c.Lower, c.Upper = -1, 0
	checkParsed(t, head+"low 5; high 6; upper 0; lower -1; }", c)
}

// P8.1: which words may stand where a field begins, of each chart, and which came already.
func TestParseOfWordsOfFields(t *testing.T) {
	for chart := range api.Charts {
		head, c := "channel a "+chartNames[chart]+" {", plain("a", chart)
		for _, word := range slices.Concat(allWords, chartNames, []string{"channel", "a", "lo", "lows", "uppe", "sizes", "name", "chart"}) {
			if _, may := endsOf(mayHave(chart), word); may {
				checkWrong(t, head+" "+word+"@", api.ErrWord)
				checkWrong(t, head+" "+word+" @;", api.ErrWord)
				continue
			}
			// A field that the chart may not have is told as that, even if it comes again.
			for _, behind := range []string{"", " 5;", " }", " 5; " + word + " 5;"} {
				checkWrong(t, head+" @"+word+behind, api.ErrWord)
				checkWrong(t, head+filling(c, wordsOf(needs[chart]))+"@"+word+behind, api.ErrWord)
			}
		}
		for _, e := range mayHave(chart) {
			from := strconv.Itoa(e.from)
			once := head + " " + e.word + " " + from + ";"
			for _, behind := range []string{"", ";", " " + from + ";", " 1000000000;", "}", " -1000000000 }"} {
				checkWrong(t, once+" @"+e.word+behind, api.ErrTwice)
			}
			checkWrong(t, head+filling(c, wordsOf(needs[chart]))+" @"+needs[chart][0].word+" 5; }", api.ErrTwice)
		}
	}
}

// P8.1: each error at each place that it may stand in.
func TestParseOfWrongTokens(t *testing.T) {
	for _, x := range []struct {
		marked string
		why    api.Errno
	}{
		// Where a channel begins.
		{"@chanel a c { base 5; cap 9; }", api.ErrWord},
		{"@channels a c { base 5; cap 9; }", api.ErrWord},
		{" @c a", api.ErrWord},
		{"@5", api.ErrWord},
		{"@-5 channel", api.ErrWord},
		{"@{", api.ErrWord},
		{"# x\n@}", api.ErrWord},
		{"@;", api.ErrWord},
		// Its Name.
		{"channel @5 c { base 5; cap 9; }", api.ErrWord},
		{"channel @{ base 5; cap 9; }", api.ErrWord},
		{"channel @}", api.ErrWord},
		{"channel @;", api.ErrWord},
		{"channel@", api.ErrWord},
		{"channel @", api.ErrWord},
		{"channel # x\n @", api.ErrWord},
		// Its chart.
		{"channel a @d { base 5; cap 9; }", api.ErrWord},
		{"channel a @channel", api.ErrWord},
		{"channel a @a", api.ErrWord},
		{"channel a @size", api.ErrWord},
		{"channel a @xba { }", api.ErrWord},
		{"channel a @cc { }", api.ErrWord},
		{"channel a @singles { }", api.ErrWord},
		{"channel a @5 {", api.ErrWord},
		{"channel a @{ base 5; cap 9; }", api.ErrWord},
		{"channel a @}", api.ErrWord},
		{"channel a @;", api.ErrWord},
		{"channel a@", api.ErrWord},
		{"channel a #c\n@", api.ErrWord},
		// The `{`.
		{"channel a c @base 5; cap 9; }", api.ErrWord},
		{"channel a c @5", api.ErrWord},
		{"channel a c @}", api.ErrWord},
		{"channel a c @; { base 5; cap 9; }", api.ErrWord},
		{"channel a c @c {", api.ErrWord},
		{"channel a c@", api.ErrWord},
		{"channel a c  @", api.ErrWord},
		// A field.
		{"channel a c { @5;", api.ErrWord},
		{"channel a c { @{", api.ErrWord},
		{"channel a c { @; base 5; cap 9; }", api.ErrWord},
		{"channel a c { base 5; @; cap 9; }", api.ErrWord},
		{"channel a c { base 5; @9; }", api.ErrWord},
		{"channel a c { base 5; @{ cap 9; }", api.ErrWord},
		{"channel a c { base 5; cap 9; @; }", api.ErrWord},
		{"channel a c { base 5; cap 9; @channel b c { base 5; cap 9; }", api.ErrWord},
		{"channel a c { @size 5; }", api.ErrWord},
		{"channel a c { base 5; @base 5; cap 9; }", api.ErrTwice},
		{"channel a c { base 5; cap 9; @base 6; }", api.ErrTwice},
		{"channel a c {@", api.ErrWord},
		{"channel a c { base 5;@", api.ErrWord},
		{"channel a c { base 5; cap 9;@", api.ErrWord},
		{"channel a c { base 5; cap 9; # }@", api.ErrWord},
		// Its number.
		{"channel a c { base @; cap 9; }", api.ErrWord},
		{"channel a c { base @cap 9; }", api.ErrWord},
		{"channel a c { base @base 5; cap 9; }", api.ErrWord},
		{"channel a c { base @{ 5; cap 9; }", api.ErrWord},
		{"channel a c { base @}", api.ErrWord},
		{"channel a c { base 5; cap @}", api.ErrWord},
		{"channel a c { base @1; cap 9; }", api.ErrRange},
		{"channel a c { base @26; cap 9; }", api.ErrRange},
		{"channel a c { base @-5; cap 9; }", api.ErrRange},
		{"channel a c { base 5; cap @0; }", api.ErrRange},
		{"channel a c { base 5; cap @-9; }", api.ErrRange},
		{"channel a c { base@", api.ErrWord},
		{"channel a c { base 5; cap #9;\n@", api.ErrWord},
		// The `;`.
		{"channel a c { base 5 @cap 9; }", api.ErrWord},
		{"channel a c { base 5 @6; cap 9; }", api.ErrWord},
		{"channel a c { base 5 @}", api.ErrWord},
		{"channel a c { base 5 @{ cap 9; }", api.ErrWord},
		{"channel a c { base 5; cap 9 @}", api.ErrWord},
		{"channel a c { base 5@-6; cap 9; }", api.ErrWord},
		{"channel a c { base 5@", api.ErrWord},
		{"channel a c { base 5; cap 9 \t@", api.ErrWord},
		// Where it ends.
		{"channel a c { cap 9; @}", api.ErrLack},
		{"channel a c { base 5; cap 9; } @}", api.ErrWord},
		{"channel a c { base 5; cap 9; } @;", api.ErrWord},
		{"channel a c { base 5; cap 9; }@5", api.ErrWord},
		{"channel a c { base 5; cap 9; } @a c { base 5; cap 9; }", api.ErrWord},
		// The first of several.
		{"@a a a { }", api.ErrWord},
		{"channel @5 5 5", api.ErrWord},
		{"channel a @x x", api.ErrWord},
		{"channel a c { base @1 }", api.ErrRange},
		{"channel a c { base 5 @base }", api.ErrWord},
		{"channel a xbar { low 5; high 5; @}", api.ErrLack},
	} {
		checkWrong(t, x.marked, x.why)
	}
}

// P8.1: a text without tokens lacks its first channel; behind one, the end is right.
func TestParseOfNoToken(t *testing.T) {
	for _, text := range []string{"", " ", "\n", " \t\r\n ", "#", "# channel a c { base 5; cap 9; }", "# x\n# y\n", strings.Repeat(" ", api.MaxText)} {
		checkAlone(t, text+"@", api.ErrWord)
		if behind := others[0] + text; len(behind) <= api.MaxText {
			checkParsed(t, behind, api.Channel{Name: "yy", Chart: api.CC, Base: 5, Cap: 9})
		}
	}
}

// long is the text of a recipe of four channels.
func long() string {
	c, d := plain("a", api.CXbar), plain("d", api.CSingle)
	c.Lower, c.Upper = -3, 4
	d.Lower, d.Upper = 0, 9
	return textOf(c, wordsOf(mayHave(api.CXbar))) + "\n" + textOf(plain("b", api.CCusum), wordsOf(needs[api.CCusum])) + "\n" +
		textOf(plain("c", api.CEwma), wordsOf(needs[api.CEwma])) + "\n" + textOf(d, wordsOf(mayHave(api.CSingle)))
}

// P8.1: a text that ends behind any of its tokens, with no blank and with others behind the last one.
func TestParseOfTextsThatEnd(t *testing.T) {
	text := long()
	l, _, _ := token.Scan(text)
	for i, x := range l {
		one, _ := token.Print(l[i : i+1])
		ahead := text[:x.At+len(one)]
		for _, blanks := range []string{"", " ", "\n\n", "# x", " # }\n \t"} {
			if x.Kind == api.TClose {
				if r, place, why := Parse(ahead + blanks); place != 0 || why != api.OK || !Right(r) {
					t.Errorf("Parse(%q) tells %d at %d", ahead+blanks, why, place)
				}
				continue
			}
			checkAlone(t, ahead+blanks+"@", api.ErrWord)
		}
	}
}

// P8.1: a text of which any token is another one, is lacking, or comes twice.
func TestParseOfTextsWithOneOtherToken(t *testing.T) {
	l, _, _ := token.Scan(long())
	var pool []api.Token
	for _, word := range slices.Concat(allWords, chartNames, []string{"channel", "x", "a"}) {
		pool = append(pool, api.Token{Kind: api.TWord, Text: word})
	}
	for _, num := range []int{0, 1, 2, -3, 4, 10, 20, 25, 99, 1000, million, -million, billion} {
		pool = append(pool, api.Token{Kind: api.TNumber, Num: num})
	}
	for _, kind := range []int{api.TOpen, api.TClose, api.TEnd} {
		pool = append(pool, api.Token{Kind: kind})
	}
	for i := range l {
		for _, other := range pool {
			checkTokens(t, slices.Concat(l[:i], []api.Token{other}, l[i+1:]))
			checkTokens(t, slices.Concat(l[:i], []api.Token{other}, l[i:]))
		}
		checkTokens(t, slices.Concat(l[:i], l[i+1:]))
		checkTokens(t, slices.Concat(l[:i+1], l[i:]))
	}
}

// checkTokens holds what is told of the tokens' text against what is expected.
func checkTokens(t *testing.T, l []api.Token) api.Errno {
	t.Helper()
	text, why := token.Print(l)
	if why != api.OK {
		t.Fatalf("Print of %d tokens tells %d", len(l), why)
	}
	return checkExpected(t, text)
}

// P8.1: the 5th channel is too many, ahead of what else is wrong with it, but not if it begins with another word.
func TestParseOfFiveChannels(t *testing.T) {
	four := strings.Join(others, "") + "channel a c { base 5; cap 9; } "
	if r, place, why := Parse(four); len(r.Channels) != 4 || place != 0 || why != api.OK {
		t.Errorf("Parse of four channels = %v, %d, %d", r, place, why)
	}
	for _, fifth := range []string{"", " ", " b", " b c { base 5; cap 9; }", " a c { base 5; cap 9; }", " yy c", " 5", " b x", " b c {", " b c { }", " b c { size 5; }", " channel", ";"} {
		checkAlone(t, four+"@channel"+fifth, api.ErrSize)
		checkAlone(t, four+"# x\n@channel"+fifth, api.ErrSize)
	}
	for _, wrong := range []string{"a c { base 5; cap 9; }", "channels b", "5", "{", "}", ";"} {
		checkAlone(t, four+"@"+wrong, api.ErrWord)
	}
	// What is wrong ahead of the 5th is told first.
	checkAlone(t, strings.Join(others, "")+"channel a c { base 5; @} channel b c { base 5; cap 9; }", api.ErrLack)
}

// P8.1: a Name that a channel ahead has, side by side and apart, ahead of what else is wrong.
func TestParseOfOneName(t *testing.T) {
	a, b, c := "channel a c { base 5; cap 9; }\n", "channel b p { size 5; base 5; cap 9; }\n", "channel ab u { size 5; base 5; cap 9; }\n"
	for _, behind := range []string{" c { base 5; cap 9; }", " single", " x", "", "{", " 5", " a"} {
		checkAlone(t, a+"channel @a"+behind, api.ErrTwice)
		checkAlone(t, a+b+"channel @a"+behind, api.ErrTwice)
		checkAlone(t, a+b+"channel @b"+behind, api.ErrTwice)
		checkAlone(t, a+b+c+"channel @a"+behind, api.ErrTwice)
		checkAlone(t, a+b+c+"channel @b"+behind, api.ErrTwice)
		checkAlone(t, a+b+c+"channel @ab"+behind, api.ErrTwice)
	}
	checkAlone(t, a+"channel @a c { base 5; cap 9; }"+b, api.ErrTwice)
	checkAlone(t, a+b+"channel @a"+" c { base 5; cap 9; } channel b", api.ErrTwice)
	if r, _, why := Parse(a + b + c + "channel aa c { base 2; cap 1; }"); why != api.OK || len(r.Channels) != 4 {
		t.Errorf("four channels of other names: %v, %d", r, why)
	}
}

// P8.1: token.Scan's errors, with their places, ahead of any other one.
func TestParseOfWrongPieces(t *testing.T) {
	for _, x := range []struct {
		marked string
		why    api.Errno
	}{
		{"channel a c { base 5; cap 9; } @A", api.ErrChar},
		{"channel @A c { base 5; cap 9; }", api.ErrChar},
		{"channel a@_b c { base 5; cap 9; }", api.ErrChar},
		{"channel a c { base @- 5; cap 9; }", api.ErrChar},
		{"channel a c { base 5@, cap 9; }", api.ErrChar},
		{"channel a c @\xff base 5; cap 9; }", api.ErrChar},
		{"channel @abcdefghijklm c { base 5; cap 9; }", api.ErrSize},
		{"channel a c { @basebasebaseb 5; cap 9; }", api.ErrSize},
		{"channel a c { base @05; cap 9; }", api.ErrRange},
		{"channel a single { low @-0; high 9; base 5; cap 9; }", api.ErrRange},
		{"channel a c { base 5; cap @1000000001; }", api.ErrRange},
		{"channel a c { base 5; cap @99999999999999999999; }", api.ErrRange},
		{"channel a c { base @-1000000001; cap 9; }", api.ErrRange},
		// What would be told ahead of these, if they were tokens.
		{"x y z @A", api.ErrChar},
		{"5 channel @abcdefghijklm", api.ErrSize},
		{"channel a c { } @07", api.ErrRange},
		{"channel a a a a @-0 A", api.ErrRange},
		{"channel a c { base 1; base 1; @A 07", api.ErrChar},
	} {
		checkWrong(t, x.marked, x.why)
	}
	fit := "channel a c { base 5; cap 9; }"
	fit += strings.Repeat(" ", api.MaxText-len(fit))
	checkParsed(t, fit, api.Channel{Name: "a", Chart: api.CC, Base: 5, Cap: 9})
	for _, more := range []string{" ", "\n", "x", "A"} {
		checkAlone(t, "@"+fit+more, api.ErrSize)
		checkAlone(t, "@"+more+fit, api.ErrSize)
		checkAlone(t, "@"+strings.Repeat(more, api.MaxText+1), api.ErrSize)
	}
	checkAlone(t, strings.Repeat(" ", api.MaxText)+"@", api.ErrWord)
	checkAlone(t, strings.Repeat(" ", api.MaxText-1)+"@;", api.ErrWord)
	checkAlone(t, "channel a"+strings.Repeat(" ", api.MaxText-9)+"@", api.ErrWord)
}

// drawn is a channel of a chart that may be, of numbers that are drawn.
func drawn(draw *rand.Rand, name string, chart int) api.Channel {
	c := api.Channel{Name: name, Chart: chart}
	for _, e := range needs[chart] {
		c = with(c, e.word, between(draw, e))
	}
	for e, need := endsOf(needs[chart], "low"); need && c.Low >= c.High; {
		c.Low, c.High = between(draw, e), between(draw, e)
	}
	if mayAsk(chart) && draw.Intn(2) == 0 {
		for c.Lower >= c.Upper {
			c.Lower, c.Upper = between(draw, asked[0]), between(draw, asked[1])
		}
	}
	return c
}

// between is a number within the ends, often one of them, or 0.
func between(draw *rand.Rand, e ends) int {
	switch draw.Intn(6) {
	case 0:
		return e.from
	case 1:
		return e.to
	case 2:
		return max(e.from, 0)
	}
	return e.from + draw.Intn(e.to-e.from+1)
}

// drawnRecipe is a recipe that may be, of channels that are drawn.
func drawnRecipe(draw *rand.Rand) api.Recipe {
	names := slices.Concat(chartNames, allWords, []string{"channel", "a", "b", "abcdefghijkl"})
	draw.Shuffle(len(names), func(i, j int) { names[i], names[j] = names[j], names[i] })
	var r api.Recipe
	for i := range 1 + draw.Intn(4) {
		r.Channels = append(r.Channels, drawn(draw, names[i], draw.Intn(api.Charts)))
	}
	return r
}

// drawnText is the text of a recipe that is drawn: its fields in any order.
func drawnText(draw *rand.Rand) string {
	var text strings.Builder
	for _, c := range drawnRecipe(draw).Channels {
		words := wordsOf(needs[c.Chart])
		if c.Lower != c.Upper {
			words = wordsOf(mayHave(c.Chart))
		}
		draw.Shuffle(len(words), func(i, j int) { words[i], words[j] = words[j], words[i] })
		text.WriteString(textOf(c, words) + "\n")
	}
	return text.String()
}

// P8.1, P8.3, P1: texts that are drawn, with tokens, and fields, that are exchanged, taken away, doubled, or put in from elsewhere.
func TestParseOfDrawnTexts(t *testing.T) {
	draw := rand.New(rand.NewSource(81))
	count := map[api.Errno]int{}
	for range 5000 {
		l, _, _ := token.Scan(drawnText(draw))
		from, _, _ := token.Scan(drawnText(draw))
		for range draw.Intn(4) {
			i, j := draw.Intn(len(l)), draw.Intn(len(l))
			switch draw.Intn(6) {
			case 0:
				l[i], l[j] = l[j], l[i]
			case 1:
				l[i] = from[draw.Intn(len(from))]
			case 2:
				l = slices.Insert(l, i, l[j])
			case 3:
				if len(l) > 1 {
					l = slices.Delete(l, i, i+1)
				}
			case 4:
				l = l[:i+1]
			case 5:
				// A whole field.
				if l[i].Kind == api.TEnd && i >= 2 {
					l = slices.Delete(l, i-2, i+1)
				}
			}
		}
		count[checkTokens(t, l)]++
	}
	for range 2000 {
		one, other := drawnText(draw), drawnText(draw)
		count[checkExpected(t, one+other)]++
		count[checkExpected(t, one[:draw.Intn(len(one)+1)])]++
		bytes := []byte(one)
		bytes[draw.Intn(len(bytes))] = byte(draw.Intn(256))
		count[checkExpected(t, string(bytes))]++
	}
	for _, why := range []api.Errno{api.OK, api.ErrSize, api.ErrRange, api.ErrChar, api.ErrWord, api.ErrTwice, api.ErrLack} {
		if count[why] < 100 {
			t.Errorf("%d texts that tell %d were looked at", count[why], why)
		}
	}
}

// R1, R4: the same arguments lead to the same answers, whatever was asked between, and no channel that was handed in changes.
func TestNothingIsKeptOrChanged(t *testing.T) {
	r := of(plain("a", api.CXbar), plain("b", api.CEwma))
	was := slices.Clone(r.Channels)
	first, _ := Print(r)
	one, _, _ := Parse(first)
	for range 3 {
		checkAlone(t, "channel a c { @}", api.ErrLack)
		checkRight(t, of(plain("", api.CC)), false)
		checkRight(t, r, true)
		other, _, _ := Parse(first)
		if !reflect.DeepEqual(one, other) {
			t.Errorf("Parse(%q) = %v, then %v", first, one, other)
		}
		other.Channels[0].Low, other.Channels[1].Name = 9, "x"
		if again, _ := Print(r); again != first {
			t.Errorf("Print = %q, then %q", first, again)
		}
	}
	if !slices.Equal(r.Channels, was) {
		t.Errorf("the channels changed to %v", r.Channels)
	}
}
