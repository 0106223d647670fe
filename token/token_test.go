package token

import (
	"math"
	"math/rand"
	"regexp"
	"slices"
	"strconv"
	"strings"
	"testing"

	"datum/api"
)

const (
	least    = math.MinInt
	greatest = math.MaxInt
)

func wordOf(text string) api.Token { return api.Token{Kind: api.TWord, Text: text} }

func numberOf(num int) api.Token { return api.Token{Kind: api.TNumber, Num: num} }

func markTold(kind int) api.Token { return api.Token{Kind: kind} }

// at is the token, told at a place.
func at(place int, t api.Token) api.Token {
	t.At = place
	return t
}

// placed are the tokens with other places.
func placed(l []api.Token, place func(i int) int) []api.Token {
	out := slices.Clone(l)
	for i := range out {
		out[i].At = place(i)
	}
	return out
}

// without are the tokens with no places, so that they can be held against others.
func without(l []api.Token) []api.Token { return placed(l, func(int) int { return 0 }) }

// may are tokens that may be, of all kinds.
func may() []api.Token {
	l := []api.Token{markTold(api.TOpen), markTold(api.TClose), markTold(api.TEnd)}
	for _, text := range []string{"a", "z", "az", "low", "abcdefghijkl", "zzzzzzzzzzzz"} {
		l = append(l, wordOf(text))
	}
	for _, num := range []int{0, 1, -1, 7, -7, 10, 100, 105, -10, 999999999, -999999999, api.MaxNumber, -api.MaxNumber} {
		l = append(l, numberOf(num))
	}
	return l
}

// mayNot are tokens that may not be.
func mayNot() []api.Token {
	var l []api.Token
	for _, kind := range []int{0, 6, 7, -1, least, greatest} {
		l = append(l, markTold(kind), api.Token{Kind: kind, Text: "a"}, api.Token{Kind: kind, Num: 1})
	}
	texts := []string{"", "abcdefghijklm", strings.Repeat("a", 13), strings.Repeat("a", 256), strings.Repeat("z", 5000),
		"A", "Z", "aB", "Ba", "a1", "1a", "a-", "-a", "a b", " a", "a ", "a\n", "a#", "#", "{", "}", ";", "a;", "`", "a`", "a{", "a\x00", "\x00", "a\x7f", "a\x80", "\xff", "é", "aé", "a\u0141", "\u0161b", "\u2460", "ａ"}
	for _, text := range texts {
		l = append(l, wordOf(text))
	}
	for _, num := range []int{1, -1, least, greatest} {
		l = append(l, api.Token{Kind: api.TWord, Text: "a", Num: num})
		for _, kind := range []int{api.TOpen, api.TClose, api.TEnd} {
			l = append(l, api.Token{Kind: kind, Num: num})
		}
	}
	for _, text := range []string{"a", "{", "}", ";", "1", " ", "\x00"} {
		for _, kind := range []int{api.TNumber, api.TOpen, api.TClose, api.TEnd} {
			l = append(l, api.Token{Kind: kind, Text: text})
		}
	}
	for _, num := range []int{api.MaxNumber + 1, -api.MaxNumber - 1, 1 << 32, -1 << 32, least, greatest} {
		l = append(l, numberOf(num))
	}
	return l
}

// P7.1
func TestRight(t *testing.T) {
	for _, place := range []int{0, 1, -1, 4000, 4001, least, greatest} {
		for _, x := range may() {
			if !Right(at(place, x)) {
				t.Errorf("Right(%v) = false", at(place, x))
			}
		}
		for _, x := range mayNot() {
			if Right(at(place, x)) {
				t.Errorf("Right(%v) = true", at(place, x))
			}
		}
	}
}

// P7.1: a word of any one byte, and one with that byte at its front, in its middle, and at its end.
func TestRightOfEachByte(t *testing.T) {
	for b := range 256 {
		letter := 'a' <= b && b <= 'z'
		one := string([]byte{byte(b)})
		for _, text := range []string{one, one + "bc", "b" + one + "c", "bc" + one} {
			if Right(wordOf(text)) != letter {
				t.Errorf("Right of the word %q = %v", text, !letter)
			}
		}
	}
}

// checkScan holds Scan's answer against what is wanted.
func checkScan(t *testing.T, text string, want []api.Token, place int, why api.Errno) {
	t.Helper()
	l, where, told := Scan(text)
	if !slices.Equal(l, want) || where != place || told != why {
		t.Errorf("Scan(%.60q), of %d bytes, = %v, %d, %d; want %v, %d, %d", text, len(text), l, where, told, want, place, why)
	}
}

// checkWrong is checkScan of a text of which a piece is wrong: there are no tokens beside that.
func checkWrong(t *testing.T, text string, place int, why api.Errno) {
	t.Helper()
	checkScan(t, text, nil, place, why)
}

// P7.1: texts in which no token is.
func TestScanOfNoToken(t *testing.T) {
	for _, text := range []string{"", " ", "\t", "\n", "\r", " \t\r\n \t\r\n", "#", "# x", "#\n", "##", "# a\n# b", "# a\n# b\n", "#\r", "#\r a;\n", " # {}; 07 A - \x00\xff\n\t#", "#" + strings.Repeat("A", 3999), strings.Repeat(" ", 4000), strings.Repeat("\n", 4000), strings.Repeat("#\n", 2000)} {
		checkScan(t, text, nil, 0, api.OK)
	}
}

// P7.1: tokens with no blank between them, with many, and with remarks, and the places at which they begin.
func TestScan(t *testing.T) {
	open, shut, end := markTold(api.TOpen), markTold(api.TClose), markTold(api.TEnd)
	for _, c := range []struct {
		text string
		want []api.Token
	}{
		{"a", []api.Token{wordOf("a")}},
		{"{", []api.Token{open}},
		{"}", []api.Token{shut}},
		{";", []api.Token{end}},
		{"0", []api.Token{numberOf(0)}},
		{"0;", []api.Token{numberOf(0), at(1, end)}},
		{"0 7", []api.Token{numberOf(0), at(2, numberOf(7))}},
		{"0a", []api.Token{numberOf(0), at(1, wordOf("a"))}},
		{"0-7", []api.Token{numberOf(0), at(1, numberOf(-7))}},
		{"105", []api.Token{numberOf(105)}},
		{"-100", []api.Token{numberOf(-100)}},
		{"5a5", []api.Token{numberOf(5), at(1, wordOf("a")), at(2, numberOf(5))}},
		{"a-5", []api.Token{wordOf("a"), at(1, numberOf(-5))}},
		{"1-2-3", []api.Token{numberOf(1), at(1, numberOf(-2)), at(3, numberOf(-3))}},
		{"a b", []api.Token{wordOf("a"), at(2, wordOf("b"))}},
		{"a\tb\rc\nd", []api.Token{wordOf("a"), at(2, wordOf("b")), at(4, wordOf("c")), at(6, wordOf("d"))}},
		{"a#b\nc", []api.Token{wordOf("a"), at(4, wordOf("c"))}},
		{"5#6\n7#", []api.Token{numberOf(5), at(4, numberOf(7))}},
		{"a# x\r b\nc", []api.Token{wordOf("a"), at(8, wordOf("c"))}},
		{"# x\n{#}", []api.Token{at(4, open)}},
		{"{{}};;", []api.Token{open, at(1, open), at(2, shut), at(3, shut), at(4, end), at(5, end)}},
		{"  \t\r\n a \n\n # 07 A\n# é\n\t-5 ", []api.Token{at(6, wordOf("a")), at(24, numberOf(-5))}},
		{"channel a c { base 5; }", []api.Token{wordOf("channel"), at(8, wordOf("a")), at(10, wordOf("c")), at(12, open), at(14, wordOf("base")), at(19, numberOf(5)), at(20, end), at(22, shut)}},
		{"channel{base5;}", []api.Token{wordOf("channel"), at(7, open), at(8, wordOf("base")), at(12, numberOf(5)), at(13, end), at(14, shut)}},
		{"abcdefghijkl;", []api.Token{wordOf("abcdefghijkl"), at(12, end)}},
		{"zzzzzzzzzzzz zzzzzzzzzzzz", []api.Token{wordOf("zzzzzzzzzzzz"), at(13, wordOf("zzzzzzzzzzzz"))}},
		{"1000000000", []api.Token{numberOf(1000000000)}},
		{"-1000000000", []api.Token{numberOf(-1000000000)}},
		{"999999999-999999999", []api.Token{numberOf(999999999), at(9, numberOf(-999999999))}},
	} {
		checkScan(t, c.text, c.want, 0, api.OK)
	}
}

// P7.1: each kind of piece that is wrong, the place at which it begins, and the first one told.
func TestScanOfWrongPieces(t *testing.T) {
	for _, c := range []struct {
		text  string
		place int
		why   api.Errno
	}{
		{"A", 0, api.ErrChar},
		{"a A", 2, api.ErrChar},
		{"aB", 1, api.ErrChar},
		{"5+6", 1, api.ErrChar},
		{"é", 0, api.ErrChar},
		{"aé", 1, api.ErrChar},
		{"\x00", 0, api.ErrChar},
		{"a \x00b", 2, api.ErrChar},
		{"\xff", 0, api.ErrChar},
		{"\x80", 0, api.ErrChar},
		{"a\x80\x80", 1, api.ErrChar},
		{"\v", 0, api.ErrChar},
		{"\f", 0, api.ErrChar},
		{"5\u00a06", 1, api.ErrChar},
		{"# x\n\ny A", 7, api.ErrChar},
		{"-", 0, api.ErrChar},
		{"5 -", 2, api.ErrChar},
		{"5-", 1, api.ErrChar},
		{"a-", 1, api.ErrChar},
		{"-a", 0, api.ErrChar},
		{"- 5", 0, api.ErrChar},
		{"--5", 0, api.ErrChar},
		{"-#\n5", 0, api.ErrChar},
		{"-;", 0, api.ErrChar},
		{"-\x80", 0, api.ErrChar},
		{";-A", 1, api.ErrChar},
		{"abcdefghijklm", 0, api.ErrSize},
		{"a abcdefghijklm", 2, api.ErrSize},
		{";abcdefghijklm;", 1, api.ErrSize},
		{"abcdefghijklmA", 0, api.ErrSize},
		{"abcdefghijklA", 12, api.ErrChar},
		{strings.Repeat("a", 4000), 0, api.ErrSize},
		{"07", 0, api.ErrRange},
		{"00", 0, api.ErrRange},
		{"000", 0, api.ErrRange},
		{"-0", 0, api.ErrRange},
		{"-0a", 0, api.ErrRange},
		{"-0 7", 0, api.ErrRange},
		{"-0;", 0, api.ErrRange},
		{"-00", 0, api.ErrRange},
		{"-07", 0, api.ErrRange},
		{"5-0", 1, api.ErrRange},
		{"5-07", 1, api.ErrRange},
		{"07A", 0, api.ErrRange},
		{"1000000001", 0, api.ErrRange},
		{"-1000000001", 0, api.ErrRange},
		{"; 1000000001", 2, api.ErrRange},
		{"1000000000 -1000000001", 11, api.ErrRange},
		{"01000000000", 0, api.ErrRange},
		{"10000000000", 0, api.ErrRange},
		{"4294967297", 0, api.ErrRange},
		{"9223372036854775807", 0, api.ErrRange},
		{"9223372036854775808", 0, api.ErrRange},
		{"-9223372036854775808", 0, api.ErrRange},
		{"-9223372036854775809", 0, api.ErrRange},
		{"18446744073709551617", 0, api.ErrRange},
		{"-18446744073709551617", 0, api.ErrRange},
		{"a " + strings.Repeat("9", 3998), 2, api.ErrRange},
		{"-" + strings.Repeat("1", 3999), 0, api.ErrRange},
		{strings.Repeat("0", 4000), 0, api.ErrRange},
		// The first of several.
		{"A abcdefghijklm 07", 0, api.ErrChar},
		{"abcdefghijklm A 07", 0, api.ErrSize},
		{"07 A abcdefghijklm", 0, api.ErrRange},
		{"a 07 -0 A", 2, api.ErrRange},
		{"#A\n- 07", 3, api.ErrChar},
	} {
		checkWrong(t, c.text, c.place, c.why)
	}
}

// P7.1: each byte, as the first of a piece: at the front, and behind other ones.
func TestScanOfEachByte(t *testing.T) {
	known := map[byte][]api.Token{' ': nil, '\t': nil, '\n': nil, '\r': nil, '#': nil,
		'{': {markTold(api.TOpen)}, '}': {markTold(api.TClose)}, ';': {markTold(api.TEnd)}}
	for b := byte('a'); b <= 'z'; b++ {
		known[b] = []api.Token{wordOf(string(rune(b)))}
	}
	for b := byte('0'); b <= '9'; b++ {
		known[b] = []api.Token{numberOf(int(b - '0'))}
	}
	for b := range 256 {
		one := string([]byte{byte(b)})
		want, ok := known[byte(b)]
		if !ok {
			checkWrong(t, one, 0, api.ErrChar)
			checkWrong(t, "low 5 "+one+" 07", 6, api.ErrChar)
			continue
		}
		checkScan(t, one, want, 0, api.OK)
		behind := placed(want, func(int) int { return 6 })
		checkScan(t, "low 5 "+one, append([]api.Token{wordOf("low"), at(4, numberOf(5))}, behind...), 0, api.OK)
	}
}

// P7.1: a remark is any bytes but 10, and goes on to the text's end, or to that byte.
func TestRemarkOfEachByte(t *testing.T) {
	for b := range 256 {
		if b != '\n' {
			one := string([]byte{byte(b)})
			checkScan(t, "#"+one, nil, 0, api.OK)
			checkScan(t, "a#"+one+" A\nb", []api.Token{wordOf("a"), at(6, wordOf("b"))}, 0, api.OK)
		}
	}
}

// P7.1: a text of more than 4000 bytes is refused ahead of all that is in it, at place 0.
func TestSizeOfText(t *testing.T) {
	for _, fill := range []string{" ", ";", "{", "a ", "5\n", "#"} {
		most := strings.Repeat(fill, api.MaxText/len(fill))
		if _, place, why := Scan(most); place != 0 || why != api.OK {
			t.Errorf("Scan of 4000 bytes of %q tells %d at %d", fill, why, place)
		}
		for _, more := range []string{" ", ";", "A", "\x00", "07"} {
			checkWrong(t, most+more, 0, api.ErrSize)
		}
	}
	ends := strings.Repeat(";", api.MaxText)
	l, _, _ := Scan(ends)
	if len(l) != api.MaxText || l[api.MaxText-1] != at(api.MaxText-1, markTold(api.TEnd)) {
		t.Errorf("Scan of 4000 ends has %d tokens", len(l))
	}
	checkWrong(t, strings.Repeat(" ", 3999)+"A", 3999, api.ErrChar)
	checkWrong(t, strings.Repeat(" ", 3999)+"-", 3999, api.ErrChar)
	checkWrong(t, strings.Repeat(" ", 3987)+"abcdefghijklm", 3987, api.ErrSize)
	checkWrong(t, strings.Repeat(" ", 3998)+"-0", 3998, api.ErrRange)
	checkWrong(t, strings.Repeat(" ", 4000)+"A", 0, api.ErrSize)
	checkWrong(t, "A"+strings.Repeat(" ", 4000), 0, api.ErrSize)
	checkWrong(t, strings.Repeat("a", 100000), 0, api.ErrSize)
}

var (
	blankShape = regexp.MustCompile(`^(?:[ \t\n\r]|#[^\n]*)+`)
	wordShape  = regexp.MustCompile(`^[a-z]+`)
	digitShape = regexp.MustCompile(`^-?[0-9]+`)
	rightShape = regexp.MustCompile(`^(?:0|-?[1-9][0-9]*)$`)
)

// kinds are the tokens of one byte.
var kinds = map[byte]int{'{': api.TOpen, '}': api.TClose, ';': api.TEnd}

// expected is what Scan should tell of a text of at most 4000 bytes, found by the pieces' shapes.
func expected(text string) ([]api.Token, int, api.Errno) {
	var l []api.Token
	for place := 0; place < len(text); {
		rest := text[place:]
		if blank := blankShape.FindString(rest); blank != "" {
			place += len(blank)
			continue
		}
		if letters := wordShape.FindString(rest); letters != "" {
			if len(letters) > 12 {
				return nil, place, api.ErrSize
			}
			l = append(l, at(place, wordOf(letters)))
			place += len(letters)
			continue
		}
		if digits := digitShape.FindString(rest); digits != "" {
			num, err := strconv.ParseInt(digits, 10, 64)
			if !rightShape.MatchString(digits) || err != nil || num > 1000000000 || num < -1000000000 {
				return nil, place, api.ErrRange
			}
			l = append(l, at(place, numberOf(int(num))))
			place += len(digits)
			continue
		}
		kind := kinds[rest[0]]
		if kind == 0 {
			return nil, place, api.ErrChar
		}
		l = append(l, at(place, markTold(kind)))
		place++
	}
	return l, 0, api.OK
}

// checkExpected holds Scan against the shapes, and tells what it told.
func checkExpected(t *testing.T, text string) api.Errno {
	t.Helper()
	want, place, why := expected(text)
	checkScan(t, text, want, place, why)
	return why
}

// P7.1: all texts of up to 5 bytes of some that matter.
func TestScanOfAllShortTexts(t *testing.T) {
	const some = "a07-# \n;A\x80"
	texts := []string{""}
	for range 5 {
		var longer []string
		for _, text := range texts {
			for i := range len(some) {
				longer = append(longer, text+some[i:i+1])
			}
		}
		for _, text := range longer {
			checkExpected(t, text)
		}
		texts = longer
	}
}

// P7.1, P1: texts of pieces that are drawn, right and wrong ones, and of bytes that are drawn.
func TestScanOfDrawnTexts(t *testing.T) {
	draw := rand.New(rand.NewSource(7))
	right := []string{"a", "low", "abcdefghijkl", "0", "7", "-7", "105", "1000000000", "-1000000000", "{", "}", ";", " ", "  ", "\t", "\n", "\r", "# x\n", "#\n", " ", ";"}
	wrong := []string{"A", "-", "é", "\x00", "abcdefghijklm", "07", "-0", "1000000001", "-1000000001", "99999999999999999999"}
	count := map[api.Errno]int{}
	for range 5000 {
		var text strings.Builder
		for range draw.Intn(30) {
			if draw.Intn(40) == 0 {
				text.WriteString(wrong[draw.Intn(len(wrong))])
			} else {
				text.WriteString(right[draw.Intn(len(right))])
			}
		}
		count[checkExpected(t, text.String())]++
		bytes := make([]byte, draw.Intn(50))
		for i := range bytes {
			bytes[i] = byte(draw.Intn(256))
		}
		checkExpected(t, string(bytes))
	}
	for _, why := range []api.Errno{api.OK, api.ErrChar, api.ErrSize, api.ErrRange} {
		if count[why] < 100 {
			t.Errorf("%d texts that tell %d were looked at", count[why], why)
		}
	}
}

// checkPrint holds Print's answer against what is wanted.
func checkPrint(t *testing.T, l []api.Token, want string, why api.Errno) {
	t.Helper()
	if text, told := Print(l); text != want || told != why {
		t.Errorf("Print of %d tokens = %.60q, of %d bytes, %d; want %.60q, %d", len(l), text, len(text), told, want, why)
	}
}

// P7.2
func TestPrint(t *testing.T) {
	open, shut, end := markTold(api.TOpen), markTold(api.TClose), markTold(api.TEnd)
	checkPrint(t, nil, "", api.OK)
	checkPrint(t, []api.Token{}, "", api.OK)
	for _, c := range []struct {
		l    []api.Token
		want string
	}{
		{[]api.Token{wordOf("a")}, "a"},
		{[]api.Token{wordOf("abcdefghijkl")}, "abcdefghijkl"},
		{[]api.Token{numberOf(0)}, "0"},
		{[]api.Token{numberOf(-5)}, "-5"},
		{[]api.Token{numberOf(api.MaxNumber)}, "1000000000"},
		{[]api.Token{numberOf(-api.MaxNumber)}, "-1000000000"},
		{[]api.Token{open}, "{"},
		{[]api.Token{shut}, "}"},
		{[]api.Token{end}, ";"},
		{[]api.Token{open, shut, end}, "{ } ;"},
		{[]api.Token{wordOf("low"), numberOf(-5), end}, "low -5 ;"},
		{[]api.Token{wordOf("a"), wordOf("b"), numberOf(1), numberOf(2)}, "a b 1 2"},
		{[]api.Token{at(100, wordOf("b")), at(-3, wordOf("a")), at(least, end), at(greatest, end)}, "b a ; ;"},
	} {
		checkPrint(t, c.l, c.want, api.OK)
	}
}

// many are n tokens of a kind.
func many(n int, x api.Token) []api.Token { return slices.Repeat([]api.Token{x}, n) }

// P7.2: texts of exactly 4000 bytes, and of one more.
func TestSizeOfPrint(t *testing.T) {
	end := markTold(api.TEnd)
	odd := many(2000, end) // 3999 bytes: 2000 ends, and 1999 blanks.
	checkPrint(t, odd, strings.Repeat("; ", 1999)+";", api.OK)
	even := append(many(1999, end), wordOf("ab"))
	checkPrint(t, even, strings.Repeat("; ", 1999)+"ab", api.OK)
	checkPrint(t, append(many(1999, end), numberOf(-1)), strings.Repeat("; ", 1999)+"-1", api.OK)
	checkPrint(t, append(many(1999, end), wordOf("abc")), "", api.ErrSize)
	checkPrint(t, append(many(1999, end), numberOf(-10)), "", api.ErrSize)
	checkPrint(t, many(2001, end), "", api.ErrSize)
	checkPrint(t, append(even, end), "", api.ErrSize)
	words := many(307, wordOf("abcdefghijkl")) // 3990 bytes.
	checkPrint(t, append(words, wordOf("abcdefghi")), strings.Repeat("abcdefghijkl ", 307)+"abcdefghi", api.OK)
	checkPrint(t, append(words, wordOf("abcdefghij")), "", api.ErrSize)
	checkPrint(t, many(100000, wordOf("a")), "", api.ErrSize)
}

// P7.2, P1: a token that may not be is told at any place, and ahead of a text that is too long.
func TestPrintOfWhatMayNotBe(t *testing.T) {
	for _, wrong := range mayNot() {
		checkPrint(t, []api.Token{wrong}, "", api.ErrArg)
		checkPrint(t, []api.Token{wrong, wordOf("a")}, "", api.ErrArg)
		checkPrint(t, []api.Token{wordOf("a"), wrong}, "", api.ErrArg)
		checkPrint(t, append(many(3000, markTold(api.TEnd)), wrong), "", api.ErrArg)
	}
}

// checkTold holds that the tokens are printed, and scanned as they were, with places of their own.
func checkTold(t *testing.T, l []api.Token) {
	t.Helper()
	text, why := Print(l)
	if why != api.OK {
		t.Errorf("Print(%v) tells %d", l, why)
		return
	}
	back, place, why := Scan(text)
	if place != 0 || why != api.OK || !slices.Equal(without(back), without(l)) {
		t.Errorf("%v, printed as %q, is scanned as %v, %d, %d", l, text, back, place, why)
	}
	for _, x := range back {
		if !Right(x) {
			t.Errorf("Scan(%q) has %v, which may not be", text, x)
		}
	}
}

// P7.3, P6: what is printed is scanned as it was, whatever its places are.
func TestWhatIsPrintedIsScanned(t *testing.T) {
	checkTold(t, nil)
	checkTold(t, may())
	checkTold(t, many(2000, markTold(api.TEnd)))
	checkTold(t, append(many(307, wordOf("abcdefghijkl")), wordOf("abcdefghi")))
	for _, a := range may() {
		checkTold(t, []api.Token{a})
		for _, b := range may() {
			checkTold(t, []api.Token{at(greatest, a), at(-1, b)})
		}
	}
	draw := rand.New(rand.NewSource(73))
	for range 500 {
		var l []api.Token
		for range draw.Intn(200) {
			l = append(l, at(draw.Int(), may()[draw.Intn(len(may()))]))
		}
		checkTold(t, l)
	}
}

// P7.3: more blanks, or other ones, do not matter but for the places.
func TestBlanksDoNotMatter(t *testing.T) {
	blanks := []string{" ", "  ", "\t", "\n", "\r", "\r\n", "#\n", "# 07 A\n", " \t#}{\r-\x00\xff\n \n", "#x\n#y\n"}
	l := may()
	for _, between := range blanks {
		for _, around := range append(blanks, "") {
			var text strings.Builder
			text.WriteString(around)
			want := slices.Clone(l)
			for i, x := range l {
				if i > 0 {
					text.WriteString(between)
				}
				want[i].At = text.Len()
				piece, _ := Print([]api.Token{x})
				text.WriteString(piece)
			}
			text.WriteString(around)
			checkScan(t, text.String(), want, 0, api.OK)
		}
	}
}

// P7.1: the chapter's examples.
func TestExamples(t *testing.T) {
	checkScan(t, "low-5;# x", []api.Token{wordOf("low"), at(3, numberOf(-5)), at(5, markTold(api.TEnd))}, 0, api.OK)
	checkWrong(t, "a 07", 2, api.ErrRange)
}

// R1, R4: the same arguments lead to the same answers, whatever was asked between, and no list that was handed in changes.
func TestNothingIsKeptOrChanged(t *testing.T) {
	l := placed(may(), func(i int) int { return 3 * i })
	was := slices.Clone(l)
	first, _ := Print(l)
	one, _, _ := Scan("a 5 ;")
	for range 3 {
		checkPrint(t, mayNot(), "", api.ErrArg)
		checkWrong(t, "a #\n 07", 5, api.ErrRange)
		checkPrint(t, l, first, api.OK)
		checkScan(t, "# no end", nil, 0, api.OK)
		checkScan(t, "a 5 ;", one, 0, api.OK)
	}
	if !slices.Equal(l, was) {
		t.Errorf("Print changed its list to %v", l)
	}
}
