package lex

import (
	"fmt"
	"math"
	"math/big"
	"math/rand"
	"regexp"
	"slices"
	"strings"
	"testing"

	"chamberlain/api"
	"chamberlain/some"
	"chamberlain/texts"
)

// markList are the marks, as the document writes them.
const markList = "( ) { } [ ] , ; : :: . == != < <= > >= && || ! + - * @"

var (
	nameForm   = regexp.MustCompile(`^[A-Za-z_][A-Za-z0-9_]*$`)
	digitsForm = regexp.MustCompile(`^[0-9]+$`)
	gapForm    = regexp.MustCompile(`^([\t\n\r ]|//[^\n]*)*`)
)

// oddAhead tells whether an odd number of backslashes stands ahead of a place.
func oddAhead(s string, at int) bool {
	ahead := s[:at]
	return (len(ahead)-len(strings.TrimRight(ahead, `\`)))%2 == 1
}

// told are the words of a text, or its error and where, by the document's words: an oracle.
func told(text string) ([]Word, api.Errno, int) {
	if len(text) > 65536 {
		return nil, api.ErrLong, 0
	}
	var words []Word
	for at := 0; ; {
		at += len(gapForm.FindString(text[at:]))
		if at == len(text) {
			return append(words, Word{Kind: 0, At: at}), api.OK, 0
		}
		word, width, e := toldOne(text[at:])
		if e != api.OK {
			return nil, e, at
		}
		word.At = at
		words = append(words, word)
		at += width
	}
}

// toldOne is the word that s begins with: the longest piece that is one.
func toldOne(s string) (Word, int, api.Errno) {
	for end := len(s); end > 0; end-- {
		piece := s[:end]
		switch {
		case nameForm.MatchString(piece):
			return Word{Kind: 1, Text: piece}, end, api.OK
		case digitsForm.MatchString(piece):
			n, e := toldNumber(piece)
			return Word{Kind: 2, Text: piece, Int: n}, end, e
		case piece[0] == '?' && nameForm.MatchString(piece[1:]):
			return Word{Kind: 4, Text: piece[1:]}, end, api.OK
		case slices.Contains(strings.Fields(markList), piece):
			return Word{Kind: 5, Text: piece}, end, api.OK
		}
	}
	for end := 2; s[0] == '"' && end <= len(s); end++ {
		if s[end-1] == '"' && !oddAhead(s, end-1) {
			text, e := texts.Unquote(s[:end])
			return Word{Kind: 3, Text: text}, end, e
		}
	}
	return Word{}, 0, api.ErrForm
}

// toldNumber is the number of digits, or its error.
func toldNumber(digits string) (int64, api.Errno) {
	n, _ := new(big.Int).SetString(digits, 10)
	switch {
	case n.String() != digits:
		return 0, api.ErrForm
	case !n.IsInt64():
		return 0, api.ErrRange
	}
	return n.Int64(), api.OK
}

// wantAnswer holds what Words answers against all of an answer.
func wantAnswer(t *testing.T, text string, words []Word, e api.Errno, at int) {
	t.Helper()
	l, f, n := Words(text)
	if !slices.Equal(l, words) || f != e || n != at {
		t.Fatalf("Words(%.80q): %s, %d, %d; not %s, %d, %d", text, clipped(l), f, n, clipped(words), e, at)
	}
}

// clipped tells the first few words.
func clipped(words []Word) string {
	return fmt.Sprintf("%d words %.80v", len(words), words[:min(len(words), 8)])
}

// wantTold holds what Words answers against the oracle.
func wantTold(t *testing.T, text string) {
	t.Helper()
	words, e, at := told(text)
	wantAnswer(t, text, words, e, at)
}

// wantError wants an error at a place, and no words.
func wantError(t *testing.T, text string, e api.Errno, at int) {
	t.Helper()
	wantAnswer(t, text, nil, e, at)
}

// wantKinds holds the words of a text, but the End, against kinds and texts told one by one as "kind text".
func wantKinds(t *testing.T, text string, wanted ...string) {
	t.Helper()
	words, e, at := Words(text)
	var got []string
	for _, w := range words {
		got = append(got, fmt.Sprintf("%d %s", w.Kind, w.Text))
	}
	if e != api.OK || at != 0 || !slices.Equal(got, append(wanted, "0 ")) {
		t.Errorf("Words(%q): %q, %d, %d; not %q", text, got, e, at, wanted)
	}
}

// wantRows holds all rows of up to n pieces against the oracle.
func wantRows(t *testing.T, n int, pieces ...string) {
	t.Helper()
	for _, l := range some.Lists(n, pieces) {
		wantTold(t, strings.Join(l, ""))
	}
}

// spread are rows of up to n of the pieces, by chance, the same ones each time.
func spread(count, n int, pieces []string) []string {
	chance := rand.New(rand.NewSource(7))
	var l []string
	for range count {
		row := ""
		for range chance.Intn(n + 1) {
			row += pieces[chance.Intn(len(pieces))]
		}
		l = append(l, row)
	}
	return l
}

// pieces are of one word each.
func pieces() []string {
	return append(strings.Fields(markList),
		"a", "_", "B9", "if", "principal", "containsAll", "a_1_", "0", "1", "10", "907", "9223372036854775807",
		`""`, `"a"`, `"a b"`, `"\""`, `"\\"`, `"\\\""`, `"//"`, `"?a"`, `"\x0a"`, `"007"`, "?a", "?_", "?principal", "?a1")
}

// gaps are what may stand between words.
func gaps() []string {
	return []string{" ", "\t", "\n", "\r", "  ", "\r\n", " \t\n\r ", "//\n", "// a\n", "//\"\n", "///\n", " // 007 # ?\n ", "//\r\xff\n//\n", "//a\n//b\n\t"}
}

func TestP7_1Form(t *testing.T) {
	for _, c := range []struct {
		text string
		at   int
	}{
		{"007", 0}, {" 007", 1}, {"00", 0}, {"01", 0}, {"a 00", 2}, {"a.01", 2}, {"-00", 1}, {"0 00", 2}, {"00a", 0}, {"1.00", 2},
		{"0" + strings.Repeat("9", 1000), 0}, {strings.Repeat("0", 1000), 0}, {"-09223372036854775808", 1},
		{"?", 0}, {"? a", 0}, {"?1", 0}, {"?1a", 0}, {"a?", 1}, {"a ??b", 2}, {"?(", 0}, {`?"a"`, 0}, {"?//a", 0}, {"?\na", 0}, {"?é", 0}, {"?a?", 2}, {"?-a", 0},
		{`"`, 0}, {`a "`, 2}, {`"a`, 0}, {`"a\"`, 0}, {`"\\\"`, 0}, {`"" "`, 3}, {`"a"b"`, 4}, {`"""`, 2}, {`"\`, 0}, {`"a" "b\" c`, 4},
		{`"\a"`, 0}, {`"\n"`, 0}, {`"\x61"`, 0}, {`"\x0A"`, 0}, {`"\x0"`, 0}, {"\"\n\"", 0}, {"\"a\tb\"", 0}, {"\"é\"", 0}, {"\"\x7f\"", 0}, {"a == \"\x00\"", 5},
		{"\"a // b\n\"", 0}, {`"a // b`, 0}, {"'a'", 0}, {"`a`", 0}, {`\"a"`, 0}, {`a\`, 1},
		{"=", 0}, {"a = b", 2}, {"===", 2}, {"<==", 2}, {"=>", 0}, {"!==", 2}, {"a=b", 1}, {"= =", 0},
		{"&", 0}, {"&&&", 2}, {"a & b", 2}, {"& &", 0}, {"|", 0}, {"|||", 2}, {"| |", 0}, {"a |b", 2}, {"&|", 0},
		{"/", 0}, {"a / b", 2}, {"a/b", 1}, {"/ /", 0}, {"/* a */", 0}, {"a /", 2}, {"//\n/", 3}, {"// a\n // b\n /", 12},
		{"#", 0}, {"$a", 0}, {"a%b", 1}, {"a^b", 1}, {"~a", 0}, {"a'", 1}, {"é", 0}, {"aé", 1}, {"ª", 0}, {"\u0661", 0}, {"1\u0661", 1}, {"\uff11", 0},
		{"\x00", 0}, {"a\x00", 1}, {"a\x0bb", 1}, {"\x0c", 0}, {"\x1f", 0}, {"a\u00a0b", 1}, {"\x85", 0}, {"\u2028", 0}, {"\ufeffa", 0}, {"\xff", 0}, {"a \x80", 2}, {"\x7f", 0},
	} {
		wantError(t, c.text, api.ErrForm, c.at)
		wantError(t, "a /* b"+c.text, api.ErrForm, 2) // the first one alone is told
		wantError(t, "// a\n+"+c.text, api.ErrForm, 6+c.at)
	}
}

func TestP7_1Range(t *testing.T) {
	for _, digits := range []string{
		"9223372036854775808", "9223372036854775809", "9223372036854775810", "9300000000000000000", "10000000000000000000", "18446744073709551615",
		"18446744073709551616", "18446744073709551617", "99999999999999999999", "340282366920938463463374607431768211456",
		"340282366920938463463374607431768211457", "1" + strings.Repeat("0", 65000), strings.Repeat("9", 65000),
	} {
		wantError(t, digits, api.ErrRange, 0)
		wantError(t, " "+digits+" 1", api.ErrRange, 1)
		wantError(t, "-"+digits, api.ErrRange, 1) // the minus is a word of its own
		wantError(t, "a == "+digits+"a", api.ErrRange, 5)
		wantError(t, "0"+digits, api.ErrForm, 0)
	}
}

// TestP7_1First has wrong words of both errors behind each other: the first one is told.
func TestP7_1First(t *testing.T) {
	const above = "9223372036854775808"
	wantError(t, above+" 007", api.ErrRange, 0)
	wantError(t, "007 "+above, api.ErrForm, 0)
	wantError(t, "a "+above+" ?", api.ErrRange, 2)
	wantError(t, "a ? "+above, api.ErrForm, 2)
	wantError(t, `a "b `+above, api.ErrForm, 2)
	wantError(t, above+`"`, api.ErrRange, 0)
	wantError(t, above+"#", api.ErrRange, 0)
	wantError(t, "#"+above, api.ErrForm, 0)
	wantError(t, "//"+above+"\n 00", api.ErrForm, len(above)+4)
	for _, text := range spread(20000, 6, []string{above, "007", "?", `"`, "#", "=", " ", "\n", "a", "//", "1", `\`}) {
		wantTold(t, text)
	}
}

func TestP7_1Long(t *testing.T) {
	for _, piece := range []string{"a", "_9", " ", "\n", "+", "::", "7 ", "?a ", `"a"`, `"\\"`, "//", "// a\n", "#", "0", "9", "?", `"`, `\`, "=", "\xff"} {
		long := strings.Repeat(piece, 65538)
		wantError(t, long[:65537], api.ErrLong, 0)
		wantError(t, long[:65538], api.ErrLong, 0)
		wantError(t, " "+long[:65536], api.ErrLong, 0)
		if _, e, _ := Words(long[:65536]); e == api.ErrLong {
			t.Errorf("%q, up to 65536 bytes: ErrLong", piece)
		}
	}
	wantError(t, strings.Repeat(" ", 1<<20), api.ErrLong, 0)
	wantError(t, strings.Repeat("1", 1<<20), api.ErrLong, 0)
	wantError(t, strings.Repeat(" ", 65535)+"?", api.ErrForm, 65535)
	wantError(t, strings.Repeat("a ", 32767)+"00", api.ErrForm, 65534)
	wantError(t, `"`+strings.Repeat("a", 65535), api.ErrForm, 0)
	wantError(t, `"`+strings.Repeat(`\"`, 32767)+"a", api.ErrForm, 0)
	wantError(t, strings.Repeat("0", 65536), api.ErrForm, 0)
	wantError(t, strings.Repeat("9", 65536), api.ErrRange, 0)
}

// TestP7_1Bytes asks for each two bytes, and for each byte in places of words.
func TestP7_1Bytes(t *testing.T) {
	wantTold(t, "")
	for i := range 256 {
		c := string([]byte{byte(i)})
		for _, text := range []string{
			c, c + "a", "a" + c, "a" + c + "a", "1" + c, "1" + c + "1", "?" + c, "?a" + c, "?" + c + "a", c + "?a", `"` + c + `"`, `"` + c, `"\` + c + `"`, `"\` + c, `""` + c,
			"//" + c, "//" + c + "#", "/" + c, "a /" + c + "a", "=" + c, "&" + c, "|" + c, "::" + c, "!" + c + "=", " " + c + " ", "\n" + c + "\n", "a//" + c + "\n=",
		} {
			wantTold(t, text)
		}
		for j := range 256 {
			wantTold(t, string([]byte{byte(i), byte(j)}))
		}
	}
}

func TestP7_1Short(t *testing.T) {
	wantRows(t, 4, "a", "_", "0", "1", `"`, `\`, "?", "/", "\n", " ", "=", ":", "<", "!", "&", "|", ".", "#")
	wantRows(t, 3, strings.Split("(){}[],;:.=!<>&|+-*@/?\"\\ \n\ra0", "")...)
	wantRows(t, 7, `"`, `\`, "a", "/", "\n")
	wantRows(t, 7, `"`, `\`, "x", "0", " ")
	wantRows(t, 8, "/", "\n", "a", "\r")
	wantRows(t, 8, "0", "9", " ", "a")
}

func TestP7_2Kinds(t *testing.T) {
	for place, kind := range []int{End, Name, Number, Quoted, Slot, Mark} {
		if kind != place {
			t.Errorf("kind %d is %d", place, kind)
		}
	}
	wantKinds(t, "")
	wantKinds(t, " \t\r\n")
	wantKinds(t, "// a")
	wantKinds(t, "//")
	wantKinds(t, "a1_", "1 a1_")
	wantKinds(t, "a 1a", "1 a", "2 1", "1 a")
	wantKinds(t, "0x1F", "2 0", "1 x1F")
	wantKinds(t, "1_000", "2 1", "1 _000")
	wantKinds(t, "1.5", "2 1", "5 .", "2 5")
	wantKinds(t, "1e3", "2 1", "1 e3")
	wantKinds(t, "-0", "5 -", "2 0")
	wantKinds(t, "--1", "5 -", "5 -", "2 1")
	wantKinds(t, "?a?b", "4 a", "4 b")
	wantKinds(t, "?principal==?_1", "4 principal", "5 ==", "4 _1")
	wantKinds(t, `""`, "3 ")
	wantKinds(t, `"a""b"`, "3 a", "3 b")
	wantKinds(t, `a"b"c`, "1 a", "3 b", "1 c")
	wantKinds(t, `"\"" "\\" "\\\"" "\x0a\xff"`, `3 "`, `3 \`, `3 \"`, "3 \n\xff")
	wantKinds(t, `"\\"a"\\"`, `3 \`, "1 a", `3 \`)
	wantKinds(t, `"// a" // "b"`, "3 // a")
	wantKinds(t, "a // b\nc", "1 a", "1 c")
	wantKinds(t, "a//b\rc\n//\n///d\ne", "1 a", "1 e")
	wantKinds(t, "a// b // c \" \xff ?\n// 00", "1 a")
	wantKinds(t, "if then else true false in has is", "1 if", "1 then", "1 else", "1 true", "1 false", "1 in", "1 has", "1 is")
	wantKinds(t, `@id("a")`, "5 @", "1 id", "5 (", "3 a", "5 )")
	wantKinds(t, `A::b::"c"`, "1 A", "5 ::", "1 b", "5 ::", "3 c")
}

func TestP7_2Marks(t *testing.T) {
	var wanted []string
	for _, mark := range strings.Fields(markList) {
		wanted = append(wanted, "5 "+mark)
		wantKinds(t, mark, "5 "+mark)
		wantKinds(t, "a"+mark+"1", "1 a", "5 "+mark, "2 1")
		wantKinds(t, mark+`"a"`, "5 "+mark, "3 a")
	}
	wantKinds(t, markList, wanted...)
	wantKinds(t, ":::", "5 ::", "5 :")
	wantKinds(t, "::::", "5 ::", "5 ::")
	wantKinds(t, ": :", "5 :", "5 :")
	wantKinds(t, "====", "5 ==", "5 ==")
	wantKinds(t, "!!=", "5 !", "5 !=")
	wantKinds(t, "!===", "5 !=", "5 ==")
	wantKinds(t, "< ==<===", "5 <", "5 ==", "5 <=", "5 ==")
	wantKinds(t, "<<=", "5 <", "5 <=")
	wantKinds(t, ">>=>", "5 >", "5 >=", "5 >")
	wantKinds(t, "<>", "5 <", "5 >")
	wantKinds(t, "&&&&||||", "5 &&", "5 &&", "5 ||", "5 ||")
	wantKinds(t, "**++--..@@,,;;", "5 *", "5 *", "5 +", "5 +", "5 -", "5 -", "5 .", "5 .", "5 @", "5 @", "5 ,", "5 ,", "5 ;", "5 ;")
}

// TestP7_2Fields holds each field of words of all kinds.
func TestP7_2Fields(t *testing.T) {
	wantAnswer(t, "", []Word{{Kind: End}}, api.OK, 0)
	wantAnswer(t, " // a\n", []Word{{Kind: End, At: 6}}, api.OK, 0)
	wantAnswer(t, `a == "b"`, []Word{ // the document's example
		{Kind: Name, Text: "a"},
		{Kind: Mark, Text: "==", At: 2},
		{Kind: Quoted, Text: "b", At: 5},
		{Kind: End, At: 8},
	}, api.OK, 0)
	wantAnswer(t, "\n?a.b_1<=10//é\n&&\"\\x0a\\\"\"\t", []Word{
		{Kind: Slot, Text: "a", At: 1},
		{Kind: Mark, Text: ".", At: 3},
		{Kind: Name, Text: "b_1", At: 4},
		{Kind: Mark, Text: "<=", At: 7},
		{Kind: Number, Text: "10", Int: 10, At: 9},
		{Kind: Mark, Text: "&&", At: 16},
		{Kind: Quoted, Text: "\n\"", At: 18},
		{Kind: End, At: 27},
	}, api.OK, 0)
}

func TestP7_2Numbers(t *testing.T) {
	for _, c := range []struct {
		digits string
		n      int64
	}{
		{"0", 0}, {"1", 1}, {"9", 9}, {"10", 10}, {"907", 907}, {"12345678901234567", 12345678901234567}, {"1000000000000000000", 1000000000000000000},
		{"9223372036854775806", math.MaxInt64 - 1}, {"9223372036854775807", math.MaxInt64},
	} {
		end := len(c.digits)
		wantAnswer(t, c.digits, []Word{{Kind: Number, Text: c.digits, Int: c.n}, {Kind: End, At: end}}, api.OK, 0)
		wantAnswer(t, " -"+c.digits+"_", []Word{
			{Kind: Mark, Text: "-", At: 1},
			{Kind: Number, Text: c.digits, Int: c.n, At: 2},
			{Kind: Name, Text: "_", At: 2 + end},
			{Kind: End, At: 3 + end},
		}, api.OK, 0)
	}
}

// TestP7_2Quoted asks for what texts.Quote tells of all bytes, by themselves and between other words.
func TestP7_2Quoted(t *testing.T) {
	var bytes []string
	for i := range 256 {
		bytes = append(bytes, string([]byte{byte(i)}))
	}
	l := append(spread(2000, 20, bytes), spread(2000, 12, []string{`"`, `\`, "\n", "//", "a", "\xff", "?", `\x61`})...)
	for _, text := range append(l, bytes...) {
		told := texts.Quote(text)
		end := len(told)
		wantAnswer(t, told, []Word{{Kind: Quoted, Text: text}, {Kind: End, At: end}}, api.OK, 0)
		wantAnswer(t, "a"+told+told+"?b", []Word{
			{Kind: Name, Text: "a"},
			{Kind: Quoted, Text: text, At: 1},
			{Kind: Quoted, Text: text, At: 1 + end},
			{Kind: Slot, Text: "b", At: 1 + 2*end},
			{Kind: End, At: 3 + 2*end},
		}, api.OK, 0)
		wantError(t, "a "+told[:end-1], api.ErrForm, 2)
	}
}

// TestP7_2Long has texts of as many bytes as there may be.
func TestP7_2Long(t *testing.T) {
	const most = 65536
	end := Word{Kind: End, At: most}
	wantAnswer(t, strings.Repeat(" ", most), []Word{end}, api.OK, 0)
	wantAnswer(t, strings.Repeat("/", most), []Word{end}, api.OK, 0)
	wantAnswer(t, strings.Repeat("//a\n", most/4), []Word{end}, api.OK, 0)
	name, inside := strings.Repeat("a", most), strings.Repeat("b", most-2)
	wantAnswer(t, name, []Word{{Kind: Name, Text: name}, end}, api.OK, 0)
	wantAnswer(t, "?"+name[1:], []Word{{Kind: Slot, Text: name[1:]}, end}, api.OK, 0)
	wantAnswer(t, `"`+inside+`"`, []Word{{Kind: Quoted, Text: inside}, end}, api.OK, 0)
	var marks, names []Word
	for i := range most {
		marks = append(marks, Word{Kind: Mark, Text: "!", At: i})
		if i%2 == 0 {
			names = append(names, Word{Kind: Name, Text: "a", At: i})
		}
	}
	wantAnswer(t, strings.Repeat("!", most), append(marks, end), api.OK, 0)
	wantAnswer(t, strings.Repeat("a\n", most/2), append(names, end), api.OK, 0)
}

// TestP7_2Spread has long rows of all words, gaps and wrong pieces.
func TestP7_2Spread(t *testing.T) {
	good := append(pieces(), gaps()...)
	for _, text := range spread(3000, 25, good) {
		wantTold(t, text)
	}
	for _, text := range spread(3000, 10, append(good, "=", "#", "?", `"`, `\`, "/", "//", "00", "9223372036854775808")) {
		wantTold(t, text)
	}
}

// TestP7_2NewMemory spoils what was answered: the same call has the same answer again.
func TestP7_2NewMemory(t *testing.T) {
	for _, text := range []string{"", `a == "b" // c`, "?a 1 :: -"} {
		words, _, _ := Words(text)
		first := slices.Clone(words)
		for i := range words[:cap(words)] {
			words[:cap(words)][i] = Word{Kind: 9, Text: "spoilt", Int: 9, At: 9}
		}
		wantAnswer(t, text, first, api.OK, 0)
	}
}

// moved are words without places.
func moved(words []Word) []Word {
	l := slices.Clone(words)
	for i := range l {
		l[i].At = 0
	}
	return l
}

// wantSame wants a text to have just those words, wherever they are.
func wantSame(t *testing.T, text string, words []Word) {
	t.Helper()
	l, e, at := Words(text)
	if e != api.OK || at != 0 || !slices.Equal(moved(l), moved(words)) {
		t.Fatalf("Words(%.200q): %s, %d, %d; not %s", text, clipped(l), e, at, clipped(words))
	}
}

// TestP7_3Between lays any gap between the same words.
func TestP7_3Between(t *testing.T) {
	chance := rand.New(rand.NewSource(3))
	all, between := pieces(), gaps()
	for range 1000 {
		var l []string
		for range 1 + chance.Intn(8) {
			l = append(l, all[chance.Intn(len(all))])
		}
		words, e, _ := Words(strings.Join(l, " "))
		if e != api.OK || len(words) != len(l)+1 {
			t.Fatalf("Words of %q: %v, %d", l, words, e)
		}
		for _, gap := range between {
			text := strings.Join(l, gap)
			wantSame(t, text, words)
			wantSame(t, gap+text, words)
			wantSame(t, text+gap, words)
			wantSame(t, text+gap+"// and then", words)
		}
	}
}

// TestP7_3Ahead lays a gap ahead of a word of a text: the places of those ahead of it are as they were, those of the others further on by the gap.
func TestP7_3Ahead(t *testing.T) {
	for _, text := range spread(300, 12, append(pieces(), " ", "\n")) {
		words, e, at := Words(text)
		for place, word := range words {
			for _, gap := range gaps() {
				later := slices.Clone(words)
				for i := range later[place:] {
					later[place+i].At += len(gap)
				}
				wantAnswer(t, text[:word.At]+gap+text[word.At:], later, api.OK, 0)
			}
		}
		if e == api.OK {
			continue
		}
		for _, gap := range gaps() {
			wantError(t, gap+text, e, at+len(gap))
			wantError(t, text[:at]+gap+text[at:], e, at+len(gap))
		}
	}
}
