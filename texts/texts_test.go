package texts

import (
	"fmt"
	"strconv"
	"strings"
	"testing"

	"chamberlain/api"
)

const (
	letters = "abcdefghijklmnopqrstuvwxyzABCDEFGHIJKLMNOPQRSTUVWXYZ"
	digits  = "0123456789"
)

// rows are all rows of up to n of the pieces, the empty one first.
func rows(n int, pieces ...string) []string {
	all := []string{""}
	begin := 0
	for range n {
		end := len(all)
		for _, s := range all[begin:end] {
			for _, p := range pieces {
				all = append(all, s+p)
			}
		}
		begin = end
	}
	return all
}

// spread are texts of all bytes, of up to n each, the same ones each time.
func spread(count, n int) []string {
	var l []string
	x := uint64(88172645463325252)
	for i := range count {
		var b []byte
		for range i % (n + 1) {
			x ^= x << 13
			x ^= x >> 7
			x ^= x << 17
			b = append(b, byte(x>>24))
		}
		l = append(l, string(b))
	}
	return l
}

// quoted is a text's Quote, by the document's words.
func quoted(s string) string {
	told := `"`
	for _, c := range []byte(s) {
		if c == '"' {
			told += `\"`
		} else if c == '\\' {
			told += `\\`
		} else if c >= 32 && c <= 126 {
			told += string(rune(c))
		} else {
			told += fmt.Sprintf(`\x%02x`, c)
		}
	}
	return told + `"`
}

// wantText holds what Unquote answers against a text.
func wantText(t *testing.T, s, text string) {
	t.Helper()
	if x, e := Unquote(s); x != text || e != api.OK {
		t.Errorf("Unquote(%.60q): %.60q, %d; not %.60q", s, x, e, text)
	}
}

// wantForm wants no text, beside an ErrForm.
func wantForm(t *testing.T, s string) {
	t.Helper()
	if x, e := Unquote(s); x != "" || e != api.ErrForm {
		t.Errorf("Unquote(%.60q): %.60q, %d; not ErrForm", s, x, e)
	}
}

func TestP2_1Name(t *testing.T) {
	for _, s := range []string{
		"a", "Z", "_", "a1_", "_1", "__", "a_b", "A9", "principal", "if", "true",
		letters + "_" + digits, strings.Repeat("a", 100000), "_" + strings.Repeat("7", 100000),
	} {
		if !Name(s) {
			t.Errorf("Name(%.60q): false", s)
		}
	}
}

func TestP2_1NoName(t *testing.T) {
	long := strings.Repeat("a", 100000)
	for _, s := range []string{
		"", "1", "1a", "0", "9_", "12", " ", " a", "a ", "a b", "a\n", "\na", "a\x00", "\x00", "a-b", "-a", "a.b", "a:b", "a::b", ":", "::",
		`"a"`, "?a", "@a", "a'", "é", "aé", "éa", "ª", "µ", "日", "a\u0661", "\uff41", "a\u0301", "\xff", "a\xff", "a\x80",
		long + " ", long + "é", "1" + long, long + "-" + long,
	} {
		if Name(s) {
			t.Errorf("Name(%.60q): true", s)
		}
	}
}

// TestP2_1NameBytes asks for each byte, alone, behind another one and between two.
func TestP2_1NameBytes(t *testing.T) {
	for i := range 256 {
		c := string([]byte{byte(i)})
		begins := strings.Contains(letters+"_", c)
		goesOn := begins || strings.Contains(digits, c)
		for _, s := range []struct {
			text string
			want bool
		}{{c, begins}, {c + "a", begins}, {"a" + c, goesOn}, {"a" + c + "a", goesOn}, {"_" + c, goesOn}, {"1" + c, false}} {
			if Name(s.text) != s.want {
				t.Errorf("Name(%q): %t", s.text, !s.want)
			}
			if i != ':' && Path(s.text) != s.want {
				t.Errorf("Path(%q): %t", s.text, !s.want)
			}
		}
	}
}

func TestP2_1Path(t *testing.T) {
	for _, s := range []string{
		"a", "_", "a1_", "A::b", "A::B::c", "_::_", "a1::b2", "a::a::a::a::a", "if::then",
		strings.Repeat("a::", 30000) + "a", strings.Repeat("a", 100000) + "::b",
	} {
		if !Path(s) {
			t.Errorf("Path(%.60q): false", s)
		}
	}
}

func TestP2_1NoPath(t *testing.T) {
	for _, s := range []string{
		"", ":", "::", ":::", "::::", "A::", "::A", "A:", ":A", "A:b", "A:::b", "A::::b", "A:::::b", "A::b:", "A::b::", ":A::b", "::A::b",
		"A:: b", "A ::b", "A :: b", " A::b", "A::b ", "A: :b", "A::1", "1::A", "A::1b", "A::b::1", "A::b::2::c", "A.b", "A/b", "A::b\n", "A\n::b",
		"A::é", "é::A", "A::\xff", `A::"b"`, "A::-", "A::b.c", "A\x00::b", "A::\x00",
		strings.Repeat("a::", 30000), strings.Repeat("::", 30000), strings.Repeat("a::", 30000) + "1", strings.Repeat("a:", 30000) + "a",
	} {
		if Path(s) {
			t.Errorf("Path(%.60q): true", s)
		}
	}
}

// TestP2_1Short asks for all rows of up to seven of a few bytes: a Path is a name, or a Path, `::` and a name.
func TestP2_1Short(t *testing.T) {
	names, paths := map[string]bool{}, map[string]bool{}
	for _, s := range rows(7, "a", "1", "_") {
		names[s] = s != "" && s[0] != '1'
	}
	for _, s := range rows(7, "a", "1", "_", ":") { // the shorter ones come first
		paths[s] = names[s]
		for i := range s {
			if strings.HasPrefix(s[i:], "::") && paths[s[:i]] && names[s[i+2:]] {
				paths[s] = true
			}
		}
		if Name(s) != names[s] {
			t.Errorf("Name(%q): %t", s, !names[s])
		}
		if Path(s) != paths[s] {
			t.Errorf("Path(%q): %t", s, !paths[s])
		}
	}
}

func TestP2_2Quote(t *testing.T) {
	for _, c := range []struct{ s, quoted string }{
		{"", `""`},
		{"a", `"a"`},
		{"a\"\n", `"a\"\x0a"`}, // the document's example
		{`"`, `"\""`},
		{`\`, `"\\"`},
		{`\"`, `"\\\""`},
		{`"\`, `"\"\\"`},
		{`\x61`, `"\\x61"`},
		{`""`, `"\"\""`},
		{"a b", `"a b"`},
		{" ~", `" ~"`},
		{"\x1f\x20\x7e\x7f", `"\x1f ~\x7f"`},
		{"\x00\t\n\r\x1b", `"\x00\x09\x0a\x0d\x1b"`},
		{"\x80\xab\xcd\xef\xff", `"\x80\xab\xcd\xef\xff"`},
		{"é", `"\xc3\xa9"`},
		{"\ufffd", `"\xef\xbf\xbd"`},
		{"'`/?#", "\"'`/?#\""},
		{"\x001", `"\x001"`},
	} {
		if s := Quote(c.s); s != c.quoted {
			t.Errorf("Quote(%q): %s; not %s", c.s, s, c.quoted)
		}
		wantText(t, c.quoted, c.s)
	}
}

func TestP2_2QuoteBytes(t *testing.T) {
	for i := range 256 {
		c := string([]byte{byte(i)})
		for _, s := range []string{c, "a" + c, c + "f", "0" + c + "0", c + c, `\` + c, c + `"`} {
			if q := Quote(s); q != quoted(s) {
				t.Errorf("Quote(%q): %s; not %s", s, q, quoted(s))
			}
		}
	}
	for _, s := range spread(3000, 40) {
		if q := Quote(s); q != quoted(s) {
			t.Errorf("Quote(%q): %s; not %s", s, q, quoted(s))
		}
	}
}

func TestP2_2UnquoteForm(t *testing.T) {
	for _, s := range []string{
		"", `"`, `a`, `\`, `a"`, `"a`, `""a`, `a""`, ` ""`, `"" `, "\"\"\n", `"a"b"`, `"""`, `""""`, `"a""`, `""a"`, "'a'", "`a`", `'"`, `"'`,
		`"\"`, `"\`, `\"`, `"\\\"`, `"a\"`, `"\a"`, `"\n"`, `"\t"`, `"\r"`, `"\0"`, `"\'"`, `"\/"`, `"\ "`, `"\u0061"`, `"\X0a"`,
		`"\x"`, `"\x0"`, `"\xa"`, `"\x0"a`, `"\x0`, `"\x`, `"\x0\"`, `"\x\0a"`, `"\x 0"`, `"\x0 "`, `"\x0g"`, `"\xg0"`, `"\x-1"`, `"\x+1"`,
		`"\x61"`, // the document's example
		`"\x20"`, `"\x22"`, `"\x5c"`, `"\x7e"`, `"\x41"`, `"\x30"`,
		`"\x0A"`, `"\x0F"`, `"\xFF"`, `"\xfF"`, `"\xFf"`, `"\xC3\xa9"`,
		"\"\n\"", "\"\x00\"", "\"\x1f\"", "\"\x7f\"", "\"\x80\"", "\"\xff\"", "\"é\"", "\"a\tb\"", "\"a\n",
		"\"\\\n\"", "\"\\\x00\"", "\"\\é\"",
		`"ok\"`, `"ok\x0a\x6b"`, `"\x0a` + "\n" + `"`,
		`"` + strings.Repeat("a", 100000), strings.Repeat("a", 100000) + `"`, `"` + strings.Repeat("a", 100000) + `\"`,
		`"` + strings.Repeat(`\\`, 50000) + `\"`, `"` + strings.Repeat(`\x0a`, 50000) + `\x0"`,
	} {
		wantForm(t, s)
	}
}

// TestP2_2UnquoteBytes asks for each byte as it is, behind a backslash, and by digits of both sizes.
func TestP2_2UnquoteBytes(t *testing.T) {
	for i := range 256 {
		c := string([]byte{byte(i)})
		for _, inside := range []string{c, "a" + c, c + "a", `\` + c, `a\` + c + "a", fmt.Sprintf(`\x%02x`, i), fmt.Sprintf(`\x%02X`, i), fmt.Sprintf(`\x%x`, i), `\x0` + c, `\x` + c + "0"} {
			wantReading(t, `"`+inside+`"`)
		}
		wantReading(t, c+`a"`)
		wantReading(t, `"a`+c)
	}
}

// wantReading holds Unquote against the rule: a text is read just if it is the Quote of what was read.
func wantReading(t *testing.T, s string) {
	t.Helper()
	x, found := reading(s)
	if found {
		wantText(t, s, x)
		return
	}
	wantForm(t, s)
}

// reading finds the text of which s is the Quote, by a loose reading that is quoted again.
func reading(s string) (string, bool) {
	if len(s) < 2 {
		return "", false
	}
	var text []byte
	for in := s[1 : len(s)-1]; in != ""; {
		c, n := in[0], 1
		if c == '\\' && len(in) >= 2 {
			c, n = in[1], 2
		}
		if c == 'x' && n == 2 && len(in) >= 4 {
			number, _ := strconv.ParseUint(in[2:4], 16, 8)
			c, n = byte(number), 4
		}
		text = append(text, c)
		in = in[n:]
	}
	if quoted(string(text)) != s {
		return "", false
	}
	return string(text), true
}

// TestP2_2UnquoteShort reads all rows of a few pieces: just those that are some text's Quote are read.
func TestP2_2UnquoteShort(t *testing.T) {
	quotes := map[string]string{}
	for _, s := range rows(7, `"`, `\`, "x", "0", "a") {
		quotes[quoted(s)] = s
	}
	for _, s := range rows(5, "\x00", "\x0a", "\xaa", "\xa0", "x", "0", "a", `\`, `"`) {
		quotes[quoted(s)] = s
	}
	for _, s := range rows(7, `"`, `\`, "x", "0", "a") {
		if text, ok := quotes[s]; ok {
			wantText(t, s, text)
		} else {
			wantForm(t, s)
		}
		in := `"` + s + `"`
		if text, ok := quotes[in]; ok {
			wantText(t, in, text)
		} else {
			wantForm(t, in)
		}
	}
}

func TestP2_3QuotedIsUnquoted(t *testing.T) {
	l := append(spread(5000, 60), rows(5, `"`, `\`, "x", "0", "\n", "\xff")...)
	for i := range 256 {
		l = append(l, strings.Repeat(string([]byte{byte(i)}), 1000))
		for j := range 256 {
			l = append(l, string([]byte{byte(i), byte(j)}))
		}
	}
	for _, s := range l {
		q := Quote(s)
		wantText(t, q, s)
		if strings.Contains(q, "\n") {
			t.Errorf("Quote(%.60q) has a line feed: %.60q", s, q)
		}
		if _, e := Unquote(q[1:]); e != api.ErrForm {
			t.Errorf("Unquote(%.60q): %d", q[1:], e)
		}
	}
}

func TestP2_3Long(t *testing.T) {
	for _, piece := range []string{"a", `\`, `"`, "\n", "é", "\x00\\x00"} {
		s := strings.Repeat(piece, 1<<20)
		q := Quote(s)
		x, e := Unquote(q)
		if x != s || e != api.OK || strings.Contains(q, "\n") {
			t.Errorf("%q, often: %d", piece, e)
		}
		x, e = Unquote(q[:len(q)-1])
		if x != "" || e != api.ErrForm {
			t.Errorf("%q, often, without its end: %d", piece, e)
		}
	}
}
