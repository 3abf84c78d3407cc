package expr

import (
	"math"
	"math/rand"
	"slices"
	"strconv"
	"strings"
	"testing"

	"chamberlain/api"
	"chamberlain/lex"
	"chamberlain/some"
	"chamberlain/texts"
)

// opNames are those of the Ops, by their numbers.
var opNames = strings.Fields("- Lit Var Slot And Or Not If Eq Less LessEq Add Sub Mul Neg In Is Has Get MakeSet MakeRecord Contains ContainsAll ContainsAny")

// shown tells an expression: what is by itself as a text tells it, others by the Op's name, Name, Names and Kids.
func shown(e api.Expr) string {
	switch e.Op {
	case api.Lit:
		return shownValue(e.V)
	case api.Var:
		return e.Name
	case api.Slot:
		return "?" + e.Name
	}
	if e.Op < 1 || e.Op >= len(opNames) {
		return "no Op " + strconv.Itoa(e.Op)
	}
	s := opNames[e.Op]
	if e.Name != "" {
		s += " " + e.Name
	}
	if len(e.Names) > 0 {
		s += "{" + strings.Join(e.Names, " ") + "}"
	}
	var kids []string
	for _, kid := range e.Kids {
		kids = append(kids, shown(kid))
	}
	return s + "(" + strings.Join(kids, ", ") + ")"
}

func shownValue(v api.Value) string {
	switch v.Kind {
	case api.Bool:
		return strconv.FormatBool(v.Bool)
	case api.Int:
		return strconv.FormatInt(v.Int, 10)
	case api.Text:
		return texts.Quote(v.Text)
	}
	return v.Uid.Type + "::" + texts.Quote(v.Uid.Id)
}

// wordsOf are the words of a text that has some.
func wordsOf(t *testing.T, text string) []lex.Word {
	t.Helper()
	words, e, at := lex.Words(text)
	if e != api.OK {
		t.Fatalf("Words(%.80q): %d at %d", text, e, at)
	}
	return words
}

// clipped tells the first few words.
func clipped(words []lex.Word) string {
	var l []string
	for _, w := range words[:min(len(words), 60)] {
		l = append(l, strconv.Itoa(w.Kind)+" "+w.Text)
	}
	return strconv.Itoa(len(words)) + " words " + strings.Join(l, ", ")
}

// wantParse holds what Parse answers against all of an answer.
func wantParse(t *testing.T, text string, x api.Expr, e api.Errno, at int) {
	t.Helper()
	y, f, n := Parse(text)
	if !some.EqualExpr(x, y) || e != f || at != n {
		t.Fatalf("Parse(%.300q): %.300s, %d, %d; not %.300s, %d, %d", text, shown(y), f, n, shown(x), e, at)
	}
}

// wantRead holds what Read answers against all of an answer, and that the words are left as they were.
func wantRead(t *testing.T, words []lex.Word, from int, x api.Expr, next int, e api.Errno, at int) {
	t.Helper()
	l := slices.Clone(words)
	y, m, f, n := Read(words, from)
	if !some.EqualExpr(x, y) || next != m || e != f || at != n {
		t.Fatalf("Read(%s, %d): %.300s, %d, %d, %d; not %.300s, %d, %d, %d", clipped(words), from, shown(y), m, f, n, shown(x), next, e, at)
	}
	if !slices.Equal(words, l) {
		t.Fatalf("Read(%s, %d) changed the words", clipped(l), from)
	}
}

// wantUid holds what Uid answers against all of an answer, and that the words are left as they were.
func wantUid(t *testing.T, words []lex.Word, from int, u api.Uid, next int, e api.Errno, at int) {
	t.Helper()
	l := slices.Clone(words)
	v, m, f, n := Uid(words, from)
	if u != v || next != m || e != f || at != n {
		t.Fatalf("Uid(%s, %d): %v, %d, %d, %d; not %v, %d, %d, %d", clipped(words), from, v, m, f, n, u, next, e, at)
	}
	if !slices.Equal(words, l) {
		t.Fatalf("Uid(%s, %d) changed the words", clipped(l), from)
	}
}

// wantTold holds what is answered of a text against the oracle.
func wantTold(t *testing.T, text string) {
	t.Helper()
	x, e, at := toldParse(text)
	wantParse(t, text, x, e, at)
}

// wantToldFrom holds what is answered of words, from one of them on, against the oracle.
func wantToldFrom(t *testing.T, words []lex.Word, from int) {
	t.Helper()
	x, next, e, at := toldRead(words, from)
	wantRead(t, words, from, x, next, e, at)
	u, next, e, at := toldUid(words, from)
	wantUid(t, words, from, u, next, e, at)
}

// wantForm wants a text to be none, from its first word on and from a later one on.
func wantForm(t *testing.T, text string, at int) {
	t.Helper()
	wantParse(t, text, api.Expr{}, api.ErrForm, at)
	wantParse(t, "1+("+text, api.Expr{}, api.ErrForm, at+3)
	wantTold(t, text)
}

// wantError wants an error at a place, and no expression, of Parse and of Read.
func wantError(t *testing.T, text string, e api.Errno, at int) {
	t.Helper()
	wantParse(t, text, api.Expr{}, e, at)
	wantRead(t, wordsOf(t, text), 0, api.Expr{}, 0, e, at)
}

// wantShown wants a text to mean what is told of it, whatever stands around it.
func wantShown(t *testing.T, text, told string) {
	t.Helper()
	x, e, at := Parse(text)
	if shown(x) != told || e != api.OK || at != 0 {
		t.Errorf("Parse(%q): %s, %d, %d; not %s", text, shown(x), e, at, told)
		return
	}
	wantTold(t, text)
	wantParse(t, "(("+text+"))", x, api.OK, 0)
	words := wordsOf(t, text)
	end := len(words) - 1
	wantRead(t, words, 0, x, end, api.OK, 0)
	wantRead(t, words[:end], 0, x, end, api.OK, 0)
	wantRead(t, wordsOf(t, text+" }"), 0, x, end, api.OK, 0)
	wantRead(t, wordsOf(t, "== ( if "+text+";"), 3, x, end+3, api.OK, 0)
}

// wantRows holds all rows of up to n pieces against the oracle, from the first word on.
func wantRows(t *testing.T, n int, pieces string) {
	t.Helper()
	for _, l := range some.Lists(n, strings.Fields(pieces)) {
		wantTold(t, strings.Join(l, " "))
	}
}

func TestP8_1Meanings(t *testing.T) {
	wantShown(t, "true", "true")
	wantShown(t, "false", "false")
	wantShown(t, "0", "0")
	wantShown(t, "9223372036854775807", "9223372036854775807")
	wantShown(t, `""`, `""`)
	wantShown(t, `"true"`, `"true"`)
	wantShown(t, `"a\"\x0a"`, `"a\"\x0a"`)
	wantShown(t, `A::"b"`, `A::"b"`)
	wantShown(t, `A::B::c_1::""`, `A::B::c_1::""`)
	wantShown(t, `A::if::true::in::"::"`, `A::if::true::in::"::"`)
	wantShown(t, `principal::"a"`, `principal::"a"`)
	wantShown(t, `contains::context::"a"`, `contains::context::"a"`)
	wantShown(t, "principal", "principal")
	wantShown(t, "action", "action")
	wantShown(t, "resource", "resource")
	wantShown(t, "context", "context")
	wantShown(t, "?principal", "?principal")
	wantShown(t, "?resource", "?resource")
	wantShown(t, "(1)", "1")
	wantShown(t, "((((action))))", "action")

	wantShown(t, "true || false", "Or(true, false)")
	wantShown(t, "true && false", "And(true, false)")
	wantShown(t, "1 == 2", "Eq(1, 2)")
	wantShown(t, "1 != 2", "Not(Eq(1, 2))")
	wantShown(t, "1 < 2", "Less(1, 2)")
	wantShown(t, "1 <= 2", "LessEq(1, 2)")
	wantShown(t, "1 > 2", "Less(2, 1)")
	wantShown(t, "1 >= 2", "LessEq(2, 1)")
	wantShown(t, "1 + 2", "Add(1, 2)")
	wantShown(t, "1 - 2", "Sub(1, 2)")
	wantShown(t, "1-2", "Sub(1, 2)")
	wantShown(t, "1 * 2", "Mul(1, 2)")
	wantShown(t, "principal in resource", "In(principal, resource)")
	wantShown(t, `principal in [A::"a", ?resource]`, `In(principal, MakeSet(A::"a", ?resource))`)
	wantShown(t, "!true", "Not(true)")
	wantShown(t, "-1", "Neg(1)")
	wantShown(t, "-9223372036854775807", "Neg(9223372036854775807)")
	wantShown(t, "!!true", "Not(Not(true))")
	wantShown(t, "--1", "Neg(Neg(1))")
	wantShown(t, "!-!1", "Not(Neg(Not(1)))")
	wantShown(t, "if true then 1 else 2", "If(true, 1, 2)")
	wantShown(t, "principal has a", "Has a(principal)")
	wantShown(t, "principal is A", "Is A(principal)")
	wantShown(t, "principal is A::B::C", "Is A::B::C(principal)")
	wantShown(t, "principal is context", "Is context(principal)")
	wantShown(t, "principal.a", "Get a(principal)")
	wantShown(t, `principal["a b"]`, "Get a b(principal)")
	wantShown(t, `principal["a"]`, "Get a(principal)")
	wantShown(t, `context[""]`, "Get(context)")
	wantShown(t, "context.a.contains(1)", "Contains(Get a(context), 1)")
	wantShown(t, "context.containsAll(1)", "ContainsAll(context, 1)")
	wantShown(t, "context.containsAny([1])", "ContainsAny(context, MakeSet(1))")
	wantShown(t, "[]", "MakeSet()")
	wantShown(t, "[1]", "MakeSet(1)")
	wantShown(t, "[2, 1, 2]", "MakeSet(2, 1, 2)")
	wantShown(t, "{}", "MakeRecord()")
	wantShown(t, "{a: 1}", "MakeRecord{a}(1)")
	wantShown(t, `{b: 1, "a": {}, b: 2}`, "MakeRecord{b a b}(1, MakeRecord(), 2)")
	wantShown(t, `{"x y": []}`, "MakeRecord{x y}(MakeSet())")
}

func TestP8_1Levels(t *testing.T) {
	wantShown(t, "1 + 2 * 3 == 7", "Eq(Add(1, Mul(2, 3)), 7)") // the document's example
	wantShown(t, "1 * 2 + 3", "Add(Mul(1, 2), 3)")
	wantShown(t, "1 * (2 + 3)", "Mul(1, Add(2, 3))")
	wantShown(t, "1 - 2 - 3", "Sub(Sub(1, 2), 3)")
	wantShown(t, "1 - (2 - 3)", "Sub(1, Sub(2, 3))")
	wantShown(t, "1 - 2 + 3 - 4", "Sub(Add(Sub(1, 2), 3), 4)")
	wantShown(t, "1 * 2 * 3 * 4", "Mul(Mul(Mul(1, 2), 3), 4)")
	wantShown(t, "1 || 2 || 3", "Or(Or(1, 2), 3)")
	wantShown(t, "1 && 2 && 3", "And(And(1, 2), 3)")
	wantShown(t, "1 || 2 && 3 || 4", "Or(Or(1, And(2, 3)), 4)")
	wantShown(t, "1 && 2 || 3 && 4", "Or(And(1, 2), And(3, 4))")
	wantShown(t, "1 && (2 || 3) && 4", "And(And(1, Or(2, 3)), 4)")
	wantShown(t, "1 < 2 && 3 > 4 || 5 != 6", "Or(And(Less(1, 2), Less(4, 3)), Not(Eq(5, 6)))")
	wantShown(t, "(1 == 2) == (3 < 4)", "Eq(Eq(1, 2), Less(3, 4))")
	wantShown(t, "1 + 2 >= 3 * 4", "LessEq(Mul(3, 4), Add(1, 2))")
	wantShown(t, "1 + 2 in 3 + 4", "In(Add(1, 2), Add(3, 4))")
	wantShown(t, "1 + 2 has a && 3", "And(Has a(Add(1, 2)), 3)")
	wantShown(t, "1 * 2 is A || 3", "Or(Is A(Mul(1, 2)), 3)")
	wantShown(t, "-1 + -2", "Add(Neg(1), Neg(2))")
	wantShown(t, "1 - -2", "Sub(1, Neg(2))")
	wantShown(t, "1--2", "Sub(1, Neg(2))")
	wantShown(t, "1 * -2 * !3", "Mul(Mul(1, Neg(2)), Not(3))")
	wantShown(t, "!1 == 2", "Eq(Not(1), 2)")
	wantShown(t, "!(1 == 2)", "Not(Eq(1, 2))")
	wantShown(t, "!principal.a", "Not(Get a(principal))")
	wantShown(t, "(!principal).a", "Get a(Not(principal))")
	wantShown(t, "-context.a.b * 2", "Mul(Neg(Get b(Get a(context))), 2)")
	wantShown(t, "!principal in resource", "In(Not(principal), resource)")
	wantShown(t, "if 1 then 2 else 3 || 4", "If(1, 2, Or(3, 4))")
	wantShown(t, "(if 1 then 2 else 3) || 4", "Or(If(1, 2, 3), 4)")
	wantShown(t, "if if 1 then 2 else 3 then if 4 then 5 else 6 else if 7 then 8 else 9", "If(If(1, 2, 3), If(4, 5, 6), If(7, 8, 9))")
	wantShown(t, "if 1 || 2 then 3 && 4 else 5 == 6", "If(Or(1, 2), And(3, 4), Eq(5, 6))")
	wantShown(t, "[if 1 then 2 else 3, 4 || 5]", "MakeSet(If(1, 2, 3), Or(4, 5))")
	wantShown(t, "{a: if 1 then 2 else 3, b: 4 || 5}", "MakeRecord{a b}(If(1, 2, 3), Or(4, 5))")
	wantShown(t, "context.contains(if 1 then 2 else 3)", "Contains(context, If(1, 2, 3))")
	wantShown(t, `[1].contains(2).a["b"].containsAny([]).c`, "Get c(ContainsAny(Get b(Get a(Contains(MakeSet(1), 2))), MakeSet()))")
	wantShown(t, `{a: 1}["a"]`, "Get a(MakeRecord{a}(1))")
	wantShown(t, `[[]]["a"]`, "Get a(MakeSet(MakeSet()))")
	wantShown(t, `A::"a".b`, `Get b(A::"a")`)
	wantShown(t, `"a"["b"]`, `Get b("a")`)
	wantShown(t, "1.a", "Get a(1)")
	wantShown(t, "?principal.a", "Get a(?principal)")
	wantShown(t, "true.false", "Get false(true)")
}

// TestP8_1Names has names that stand for something else elsewhere.
func TestP8_1Names(t *testing.T) {
	for _, name := range strings.Fields("if then else true false in has is principal action resource context contains containsAll containsAny permit when a _1") {
		wantShown(t, "principal."+name, "Get "+name+"(principal)")
		wantShown(t, `principal["`+name+`"].`+name, "Get "+name+"(Get "+name+"(principal))")
		wantShown(t, "principal has "+name, "Has "+name+"(principal)")
		wantShown(t, "principal is A::"+name, "Is A::"+name+"(principal)")
		wantShown(t, "{"+name+": 1, a: "+"2}", "MakeRecord{"+name+" a}(1, 2)")
		wantShown(t, "A::"+name+`::"a"`, "A::"+name+`::"a"`)
		if !slices.Contains(notFirst, name) {
			wantShown(t, name+`::A::"a"`, name+`::A::"a"`)
			wantShown(t, "principal is "+name+"::A", "Is "+name+"::A(principal)")
			continue
		}
		wantForm(t, "principal is "+name, 13)
		wantForm(t, "principal is "+name+"::A", 13)
		wantUid(t, wordsOf(t, name+`::A::"a"`), 0, api.Uid{}, 0, api.ErrForm, 0)
		if name != "true" && name != "false" {
			wantForm(t, "1 + "+name, 4)
			wantForm(t, "!"+name+" 1 then 2 else 3", 1)
			wantForm(t, "1 == "+name+`::A::"a"`, 5)
		}
		if name != "true" && name != "false" && name != "if" {
			wantForm(t, name, 0)
			wantForm(t, name+`::A::"a"`, 0)
		}
	}
	for _, name := range strings.Fields("a _ A Principal principal1 permit forbid when unless id not null If TRUE") {
		wantForm(t, name, 0)
		wantForm(t, name+" == 1", 0)
		wantForm(t, "!"+name+".a", 1)
		wantForm(t, "[1, "+name+"]", 4)
	}
	for _, name := range strings.Fields("action context a Principal principal_ ?a") {
		wantForm(t, "?"+strings.TrimPrefix(name, "?"), 0)
		wantForm(t, "1 == ?"+strings.TrimPrefix(name, "?")+" && 2", 5)
	}
}

// TestP8_1NoMethods has parentheses behind names of attributes: the name stands, whatever is behind it, and the parenthesis can't.
func TestP8_1NoMethods(t *testing.T) {
	for _, name := range strings.Fields("o if then else true false in has is principal action resource context Contains containsall containsAnyx contain _ a1") {
		for _, of := range []string{"1", "true", "principal", "?resource", `A::"b"`, `"a"`, "(1)", "[]", "{}", "1.o", `1["o"]`, "1.contains", "1.contains(2)", "!1", "1 + 2"} {
			text := of + "." + name
			wantForm(t, text+"(", len(text))
			wantForm(t, text+"()", len(text))
			wantForm(t, text+"(1)", len(text))
			wantForm(t, text+" // a\n (b", len(text)+7)
			wantError(t, text+"(1).contains(2)", api.ErrForm, len(text))
			wantError(t, text+"((", api.ErrForm, len(text))
			wantError(t, text+".contains()", api.ErrForm, len(text)+10)
			words := wordsOf(t, "1 then "+text+"(1)")
			wantRead(t, words, 2, api.Expr{}, 0, api.ErrForm, 7+len(text))
			wantRead(t, words[:len(words)-3], 2, api.Expr{}, 0, api.ErrForm, 7+len(text)) // the parenthesis is the last word
			wantRead(t, words[:len(words)-4], 2, mustRead(t, text), len(words)-4, api.OK, 0)
		}
	}
}

func TestP8_1Form(t *testing.T) {
	for _, c := range []struct {
		text string
		at   int
	}{
		{"", 0}, {" // a", 5}, {"a", 0}, {")", 0}, {"(", 1}, {"()", 1}, {"(1", 2}, {"(1 2)", 3}, {"(1,2)", 2}, {"(1]", 2}, {"((1)", 4},
		{"||", 0}, {"1 ||", 4}, {"1 || || 2", 5}, {"&& 1", 0}, {"1 && ", 5}, {"1 && || 2", 5}, {"== 1", 0}, {"1 ==", 4}, {"1 == == 2", 5}, {"1 < > 2", 4},
		{"1 in", 4}, {"1 in in", 5}, {"in 1", 0}, {"+ 1", 0}, {"1 + + 2", 4}, {"1 + * 2", 4}, {"* 1", 0}, {"1 *", 3}, {"!", 1}, {"!!", 2}, {"-", 1}, {"- ", 2}, {"1 - )", 4}, {"! == 1", 2},
		{"1 has", 5}, {`1 has "a"`, 6}, {"1 has 2", 6}, {"1 has (a)", 6}, {"1 has ?principal", 6}, {"1 is", 4}, {`1 is "A"`, 5}, {"1 is ::A", 5}, {"1 is 2", 5}, {"1 is is", 5}, {"has a", 0}, {"is A", 0},
		{"if", 2}, {"if 1", 4}, {"if 1 2", 5}, {"if 1 then", 9}, {"if 1 then 2", 11}, {"if 1 then 2 else", 16}, {"if then 1 else 2", 3}, {"if 1 else 2", 5}, {"if 1 then else 2", 10}, {"if 1 then 2 then 3", 12}, {"if (1 then 2 else 3)", 6}, {"if 1, then 2 else 3", 4},
		{`if "then" 2 else 3`, 10}, {"if 1 then 2 else else", 17}, {"1 + if 2 then 3 else 4", 4}, {"!if 1 then 2 else 3", 1}, {"1 == if 1 then 2 else 3", 5}, {"then", 0}, {"else 1", 0},
		{"principal.", 10}, {"principal. 1", 11}, {`principal."a"`, 10}, {"principal..a", 10}, {"principal.(a)", 10}, {"principal.?principal", 10}, {".a", 0}, {"principal::a", 12}, {"principal::", 11},
		{"principal[", 10}, {"principal[]", 10}, {"principal[1]", 10}, {"principal[a]", 10}, {"principal[principal]", 10}, {`principal["a"`, 13}, {`principal["a")`, 13}, {`principal["a" + "b"]`, 14}, {`principal["a", "b"]`, 13}, {`1[("a")]`, 2},
		{"principal.contains(", 19}, {"principal.contains()", 19}, {"principal.contains(1", 20}, {"principal.contains(1, 2)", 20}, {"principal.contains(1]", 20}, {"principal.contains(a)", 19}, {"principal.contains((1)", 22}, {"principal.containsAll()", 22}, {"principal.containsAny(in)", 22},
		{"principal.a(1)", 11}, {"principal.a()", 11}, {"principal.a(", 11}, {"principal.a (b", 12}, {"principal.Contains(1)", 18}, {"principal.in(1)", 12}, {"principal.principal(1)", 19}, {"principal.a.b(1)", 13}, {"principal.contains(1).b(1)", 23}, {"[1, 2.a(3), b]", 7},
		{"[", 1}, {"[,]", 1}, {"[1", 2}, {"[1,", 3}, {"[1,]", 3}, {"[1,,2]", 3}, {"[1 2]", 3}, {"[1;2]", 2}, {"[1)", 2}, {"[1}", 2}, {"[[1]", 4}, {"[1, a]", 4}, {"]", 0},
		{"{", 1}, {"{,}", 1}, {"{a", 2}, {"{a}", 2}, {"{a:", 3}, {"{a:}", 3}, {"{a: 1", 5}, {"{a: 1,", 6}, {"{a: 1,}", 6}, {"{a: 1 b: 2}", 6}, {"{a 1}", 3}, {"{a == 1}", 3}, {"{1: 2}", 1}, {"{?principal: 1}", 1}, {"{(a): 1}", 1}, {"{a:: 1}", 2}, {"{a: 1]", 5},
		{`{"a" 1}`, 5}, {`{"a", "b"}`, 4}, {"{a: b}", 4}, {"{a: 1, 2}", 7}, {"{a.b: 1}", 2}, {"{A::b: 1}", 2}, {"}", 0}, {":", 0}, {"::", 0}, {`::"a"`, 0}, {`::A::"a"`, 0}, {"@", 0}, {";", 0}, {",", 0},
		{"A::", 3}, {"A::B", 4}, {"A::B::", 6}, {"A::B::C", 7}, {"A::1", 3}, {"A:: ::B", 4}, {"A::B.c", 4}, {"A::B == 1", 5}, {"A::(1)", 3}, {"A::?principal", 3}, {"A::B::1", 6}, {`A:B::"c"`, 0}, {`A."b"`, 0}, {"A::B::[1]", 6},
	} {
		wantForm(t, c.text, c.at)
		wantError(t, c.text, api.ErrForm, c.at)
	}
}

// TestP8_1Behind has words behind an expression that can't be of it: Read is content, and tells which they are.
func TestP8_1Behind(t *testing.T) {
	for _, c := range []struct {
		text, told string
		next       int
	}{
		{"1 2", "1", 1}, {"1)", "1", 1}, {"1,", "1", 1}, {"1 then", "1", 1}, {"1 if", "1", 1}, {"1 a", "1", 1}, {"1!", "1", 1}, {"1 (2)", "1", 1}, {"1 {}", "1", 1}, {`1 "a"`, "1", 1}, {"1 ?principal", "1", 1}, {"1: 2", "1", 1}, {"1;", "1", 1}, {"1@", "1", 1}, {"(1)(2)", "1", 3},
		{"1 == 2 == 3", "Eq(1, 2)", 3}, {"1 < 2 < 3", "Less(1, 2)", 3}, {"1 > 2 >= 3", "Less(2, 1)", 3}, {"1 != 2 in 3", "Not(Eq(1, 2))", 3}, {"1 in 2 in 3", "In(1, 2)", 3}, {"1 in 2 has a", "In(1, 2)", 3},
		{"1 has a has b", "Has a(1)", 3}, {"1 has a.b", "Has a(1)", 3}, {"1 has a == 2", "Has a(1)", 3}, {"1 has a + 2", "Has a(1)", 3}, {"1 has a::b", "Has a(1)", 3}, {"1 has contains(2)", "Has contains(1)", 3},
		{"1 is A in 2", "Is A(1)", 3}, {"1 is A is B", "Is A(1)", 3}, {`1 is A::"b"`, "Is A(1)", 3}, {`1 is A::B::"c"`, "Is A::B(1)", 5}, {"1 is A::", "Is A(1)", 3}, {"1 is A::1", "Is A(1)", 3}, {"1 is A::B::", "Is A::B(1)", 5}, {"1 is A.b", "Is A(1)", 3}, {"1 is A::?principal", "Is A(1)", 3}, {"1 is A::(B)", "Is A(1)", 3},
		{`true::"a"`, "true", 1}, {"false::A", "false", 1}, {"true::", "true", 1}, {`"A"::"b"`, `"A"`, 1}, {"1::a", "1", 1}, {`A::"b"::"c"`, `A::"b"`, 3}, {`A::"b"::C`, `A::"b"`, 3}, {`A::"b" "c"`, `A::"b"`, 3}, {`A::"b"(1)`, `A::"b"`, 3}, {`?principal::"a"`, "?principal", 1},
		{"principal.contains", "Get contains(principal)", 3}, {"principal.containsAny.b", "Get b(Get containsAny(principal))", 5}, {"principal.a)", "Get a(principal)", 3}, {"principal.a[", "", 0}, {"principal.contains(1)(2)", "Contains(principal, 1)", 6}, {`principal["a"](1)`, "Get a(principal)", 4}, {`principal.a::"b"`, "Get a(principal)", 3},
		{"if 1 then 2 else 3 else 4", "If(1, 2, 3)", 6}, {"if 1 then 2 else 3 then", "If(1, 2, 3)", 6}, {"1 then 2 else 3", "1", 1}, {"[1] 2", "MakeSet(1)", 3}, {"{} {}", "MakeRecord()", 2}, {"1 + 2 3", "Add(1, 2)", 3}, {"!1 !2", "Not(1)", 2}, {"principal context", "principal", 1},
	} {
		words := wordsOf(t, c.text)
		if c.told == "" {
			wantRead(t, words, 0, api.Expr{}, 0, api.ErrForm, len(c.text))
			continue
		}
		x, next, e, at := Read(words, 0)
		if shown(x) != c.told || next != c.next || e != api.OK || at != 0 {
			t.Errorf("Read of %q: %s, %d, %d, %d; not %s, %d", c.text, shown(x), next, e, at, c.told, c.next)
			continue
		}
		wantToldFrom(t, words, 0)
		if end := words[next]; end.Kind != lex.End {
			wantParse(t, c.text, api.Expr{}, api.ErrForm, end.At)
			if end.Text != ")" {
				wantParse(t, "("+c.text+")", api.Expr{}, api.ErrForm, end.At+1)
			}
		}
	}
}

func TestP8_1Deep(t *testing.T) {
	for _, c := range []struct {
		opens, inner, closes string
		most                 int // so many may be one in the other
	}{
		{"(", "1", ")", 24},
		{"[", "1", "]", 24},
		{"[", "", "]", 25},
		{"{a:", "1", "}", 24},
		{"!", "true", "", 48},
		{"-", "1", "", 48},
		{"- ", "1", "", 48},
		{"!", "(1)", "", 46},
		{"if 1 then 2 else ", "3", "", 48},
		{"if ", "1", " then 2 else 3", 48},
		{"if 1 then ", "2", " else 3", 48},
		{"context.contains(", "1", ")", 24},
		{"1 + (", "1", ")", 24},
		{"1 == -(", "1", ")", 16},
	} {
		for n := range 60 {
			text := strings.Repeat(c.opens, n) + c.inner + strings.Repeat(c.closes, n)
			x, e, at := toldParse(text)
			if n <= c.most && n > 0 && e != api.OK || n > c.most && (e != api.ErrDeep || at == 0) {
				t.Errorf("%q %d times: %d, %d", c.opens, n, e, at)
			}
			wantParse(t, text, x, e, at)
			wantToldFrom(t, wordsOf(t, text), 0)
		}
	}
	wantParse(t, strings.Repeat("(", 24)+"1"+strings.Repeat(")", 24), some.Lit(some.Num(1)), api.OK, 0)
	wantError(t, strings.Repeat("(", 25)+"1"+strings.Repeat(")", 25), api.ErrDeep, 25)
	wantError(t, strings.Repeat("( ", 25)+"1"+strings.Repeat(")", 25), api.ErrDeep, 50)
	wantError(t, strings.Repeat("!", 49)+"1", api.ErrDeep, 49)
	wantError(t, strings.Repeat("! ", 49)+"1", api.ErrDeep, 98)
	wantError(t, strings.Repeat("!", 49)+"!1", api.ErrDeep, 49)
	wantError(t, "1+"+strings.Repeat("-", 49)+" 1", api.ErrDeep, 52)
	wantError(t, strings.Repeat("(", 65536), api.ErrDeep, 25)
	wantError(t, strings.Repeat("-", 65536), api.ErrDeep, 49)
	wantError(t, strings.Repeat("[", 30)+"a", api.ErrDeep, 25)
	wantError(t, strings.Repeat("if ", 100), api.ErrDeep, 150) // fifty expr are begun, and no unary
}

// TestP8_1DeepAndForm has both errors: the one that is met first is told.
func TestP8_1DeepAndForm(t *testing.T) {
	wantError(t, "a"+strings.Repeat("(", 60), api.ErrForm, 0)
	wantError(t, "("+strings.Repeat("(", 60)+"a", api.ErrDeep, 25)
	wantError(t, strings.Repeat("(", 24)+"a", api.ErrForm, 24)
	wantError(t, strings.Repeat("(", 24)+"1+", api.ErrForm, 26)
	wantError(t, strings.Repeat("(", 24), api.ErrForm, 24)
	wantError(t, strings.Repeat("!", 48), api.ErrForm, 48)
	wantError(t, strings.Repeat("(", 20)+"1 a"+strings.Repeat("(", 30), api.ErrForm, 22)
	wantError(t, strings.Repeat("[", 24)+"1, 2 3"+strings.Repeat("[", 30), api.ErrForm, 29)
	wantError(t, "{a: "+strings.Repeat("(", 24)+"1", api.ErrDeep, 28)
	wantError(t, "{a "+strings.Repeat("(", 24)+"1", api.ErrForm, 3)
	wantError(t, strings.Repeat("(", 25), api.ErrDeep, 25) // it is begun, and too deep, ahead of its first word's being looked at
	wantError(t, strings.Repeat("(", 25)+")", api.ErrDeep, 25)
	wantError(t, strings.Repeat("!", 49), api.ErrDeep, 49)
	wantError(t, "context.a("+strings.Repeat("(", 60), api.ErrForm, 9)
	wantError(t, strings.Repeat("(", 24)+"1.a(", api.ErrForm, 27) // an expression within the parentheses would be too deep, but they can't stand
	wantError(t, strings.Repeat("(", 24)+"context.contains(1)", api.ErrDeep, 41)
}

// TestP8_1Side has much side by side, which isn't deep.
func TestP8_1Side(t *testing.T) {
	for _, text := range []string{
		strings.Repeat("(", 24) + "1" + strings.Repeat(")", 24) + " + " + strings.Repeat("(", 24) + "2" + strings.Repeat(")", 24),
		"[" + strings.Repeat("!!1, ", 1000) + "2]",
		"{" + strings.Repeat(`"a": [1], `, 1000) + "b: 2}",
		strings.Repeat("!", 48) + "1 == " + strings.Repeat("-", 48) + "1",
		strings.Repeat("(1) == (2) && ", 48) + "3",
		"if [[1]] then [[2]] else [[3]]",
		strings.Repeat(strings.Repeat("-", 40)+"1 * ", 9) + "1",
	} {
		wantTold(t, text)
		if _, e, at := Parse(text); e != api.OK {
			t.Errorf("Parse(%.80q): %d, %d", text, e, at)
		}
	}
	names := strings.Repeat("A::", 20000)
	wantParse(t, names+`"b"`, some.Lit(some.Ref(strings.TrimSuffix(names, "::"), "b")), api.OK, 0)
	wantParse(t, "1 is "+names+"B", some.Named(api.Is, names+"B", some.Lit(some.Num(1))), api.OK, 0)
	wantForm(t, "1 + "+strings.Repeat("A::", 30), 4+90)
}

// TestP8_1Short holds all short rows of words against the oracle.
func TestP8_1Short(t *testing.T) {
	wantRows(t, 3, `( ) { } [ ] , ; : :: . == != < <= > >= && || ! + - * @ if then else true false in has is principal action resource context a contains containsAll containsAny 0 7 "" "a" ?principal ?resource ?a`)
	wantRows(t, 5, `principal :: A "b" . (`)
	wantRows(t, 5, `1 is A :: "b" in`)
	wantRows(t, 5, `1 . contains a ( )`)
	wantRows(t, 5, `1 == < + * -`)
	wantRows(t, 5, `1 && || ! ( )`)
	wantRows(t, 5, `[ ] , 1 "a" principal`)
	wantRows(t, 6, `{ } : , a`)
	wantRows(t, 6, `1 if then else true`)
	wantRows(t, 7, `1 has .`)
	wantRows(t, 7, `( ) 1`)
}

// TestP8_1Froms holds short rows, from each of their words on and from where there are none, against the oracle.
func TestP8_1Froms(t *testing.T) {
	for _, l := range some.Lists(4, strings.Fields(`principal true :: A "b" . [ ] (`)) {
		words := wordsOf(t, strings.Join(l, " "))
		for from := -2; from < len(words)+2; from++ {
			wantToldFrom(t, words, from)
		}
		wantToldFrom(t, words[:len(l)], len(l)/2) // no End is there
	}
}

// TestP8_1Made holds texts that are made by the grammar against the oracle, and what becomes of them if a word is another one, is left out or is there twice.
func TestP8_1Made(t *testing.T) {
	chance := rand.New(rand.NewSource(9))
	others := strings.Fields(`( ) { } [ ] , : :: . == < && || ! + - * if then else true in has is principal a contains 1 "a" ?principal ?a`)
	good := 0
	for _, l := range makeAll(6000) {
		if len(l) > 150 {
			continue
		}
		text := strings.Join(l, " ")
		if _, e, _ := Parse(text); e == api.OK {
			good++
		}
		wantTold(t, text)
		place := chance.Intn(len(l))
		other := others[chance.Intn(len(others))]
		wantTold(t, strings.Join(slices.Insert(slices.Clone(l), place, other), "\n"))
		wantTold(t, strings.Join(slices.Delete(slices.Clone(l), place, place+1), "//\n"))
		wantTold(t, strings.Join(slices.Replace(slices.Clone(l), place, place+1, other), "\t"))
		wantTold(t, strings.Join(slices.Insert(slices.Clone(l), place, l[place]), " "))
		wantToldFrom(t, wordsOf(t, text), chance.Intn(len(l)))
	}
	if good < 3000 {
		t.Errorf("%d texts that may be: too few to tell much", good)
	}
}

func TestP8_1From(t *testing.T) {
	words := wordsOf(t, `1 + 2 == A::"b"`) // 1 at 0, + at 2, 2 at 4, == at 6, A at 9, :: at 10, "b" at 12, the End at 15
	one, two, b := some.Lit(some.Num(1)), some.Lit(some.Num(2)), some.Lit(some.Ref("A", "b"))
	wantRead(t, words, 0, some.Op(api.Eq, some.Op(api.Add, one, two), b), 7, api.OK, 0)
	wantRead(t, words, 1, api.Expr{}, 0, api.ErrForm, 2)
	wantRead(t, words, 2, some.Op(api.Eq, two, b), 7, api.OK, 0)
	wantRead(t, words, 3, api.Expr{}, 0, api.ErrForm, 6)
	wantRead(t, words, 4, b, 7, api.OK, 0)
	wantRead(t, words, 5, api.Expr{}, 0, api.ErrForm, 10)
	wantRead(t, words, 6, some.Lit(some.Text("b")), 7, api.OK, 0)
	for _, from := range []int{-1, -2, math.MinInt, 7, 8, 9, 1 << 40, math.MaxInt - 1, math.MaxInt} {
		wantRead(t, words, from, api.Expr{}, 0, api.ErrForm, 15) // as if it were the End
		wantUid(t, words, from, api.Uid{}, 0, api.ErrForm, 15)
		for _, none := range [][]lex.Word{nil, {}} {
			wantRead(t, none, from, api.Expr{}, 0, api.ErrForm, 0)
			wantUid(t, none, from, api.Uid{}, 0, api.ErrForm, 0)
		}
	}
	wantRead(t, nil, 0, api.Expr{}, 0, api.ErrForm, 0)
	wantRead(t, words[:1], 0, one, 1, api.OK, 0) // without an End: as if one were there
	wantRead(t, words[:3], 0, some.Op(api.Add, one, two), 3, api.OK, 0)
	wantRead(t, words[:6], 4, api.Expr{}, 0, api.ErrForm, 10)
	wantRead(t, words[:5], 4, api.Expr{}, 0, api.ErrForm, 9)
	ended := slices.Insert(slices.Clone(words), 1, lex.Word{Kind: lex.End, At: 1}) // an End that isn't the last word is one
	wantRead(t, ended, 0, one, 1, api.OK, 0)
	wantRead(t, ended, 1, api.Expr{}, 0, api.ErrForm, 1)
}

// TestP8_1Words has words that no text has, or that are like others but for their kinds.
func TestP8_1Words(t *testing.T) {
	one := lex.Word{Kind: lex.Number, Text: "1", Int: 1, At: 3}
	text := func(kind int, text string) lex.Word { return lex.Word{Kind: kind, Text: text, At: 7} }
	wantRead(t, []lex.Word{{Kind: lex.Number, Int: math.MinInt64}}, 0, some.Lit(some.Num(math.MinInt64)), 1, api.OK, 0)
	wantRead(t, []lex.Word{text(lex.Quoted, "true")}, 0, some.Lit(some.Text("true")), 1, api.OK, 0)
	wantRead(t, []lex.Word{text(lex.Quoted, "principal")}, 0, some.Lit(some.Text("principal")), 1, api.OK, 0)
	for _, like := range strings.Fields("( [ { ! - if true principal") {
		for _, kind := range []int{lex.End, lex.Slot, 6, -1, math.MaxInt} {
			if kind != lex.Slot || like != "principal" {
				wantRead(t, []lex.Word{text(kind, like), one}, 0, api.Expr{}, 0, api.ErrForm, 7)
			}
		}
	}
	for _, like := range strings.Fields("( [ { ! -") {
		wantRead(t, []lex.Word{text(lex.Name, like), one}, 0, api.Expr{}, 0, api.ErrForm, 7)
		wantRead(t, []lex.Word{text(lex.Quoted, like), one}, 0, some.Lit(some.Text(like)), 1, api.OK, 0)
	}
	for _, like := range strings.Fields("true false principal if a") {
		wantRead(t, []lex.Word{text(lex.Mark, like), one}, 0, api.Expr{}, 0, api.ErrForm, 7)
	}
	for _, like := range strings.Fields("== < && || + - * . [ in has is ( ::") {
		for _, kind := range []int{lex.End, lex.Number, lex.Quoted, lex.Slot, 6, -1} {
			wantRead(t, []lex.Word{one, text(kind, like), one, one}, 0, some.Lit(some.Num(1)), 1, api.OK, 0)
		}
	}
	set := wordsOf(t, "[1, 2]")
	set[2].Kind = lex.Quoted
	wantRead(t, set, 0, api.Expr{}, 0, api.ErrForm, 2)
	name := []lex.Word{text(lex.Name, "A"), text(lex.Quoted, "::"), text(lex.Quoted, "b")}
	wantRead(t, name, 0, api.Expr{}, 0, api.ErrForm, 7)
	wantUid(t, name, 0, api.Uid{}, 0, api.ErrForm, 7)
	dot := []lex.Word{one, text(lex.Mark, "."), text(lex.Quoted, "a"), one}
	wantRead(t, dot, 0, api.Expr{}, 0, api.ErrForm, 7)
	method := wordsOf(t, "1.a(2)")
	method[3].Kind = lex.Quoted
	wantRead(t, method, 0, some.Named(api.Get, "a", some.Lit(some.Num(1))), 3, api.OK, 0)
}

// TestP8_1NewMemory spoils what was answered, and what there is room for behind its lists: the same call has the same answer again, and so has one that was answered ahead of it.
func TestP8_1NewMemory(t *testing.T) {
	for _, text := range []string{"[1, 2, 3]", "{a: [1, 2], b: {c: 3}, d: 4}", "1 != 2", "1 + 2 - 3 >= 4", "if [] then {} else [1]", "principal.a.contains([1, 2, 3]) && principal is A::B", "principal has a || ?resource in [action]"} {
		words := wordsOf(t, text)
		x, _, _, _ := Read(words, 0)
		y, _, _ := Parse(text)
		first := some.CloneExpr(x)
		fill(x)
		if !some.EqualExpr(x, first) {
			t.Errorf("%q: what is laid behind a list of the answer changes another one", text)
		}
		some.SpoilExpr(x)
		if !some.EqualExpr(y, first) {
			t.Errorf("%q: two answers share memory", text)
		}
		wantRead(t, words, 0, first, len(words)-1, api.OK, 0)
		for i := range words {
			words[i] = lex.Word{Kind: lex.Mark, Text: "spoilt"}
		}
		wantParse(t, text, first, api.OK, 0)
		if !some.EqualExpr(y, first) {
			t.Errorf("%q: the answer hangs on the words", text)
		}
	}
}

// fill lays something behind each list of an expression, where there is room.
func fill(e api.Expr) {
	for _, kid := range e.Kids {
		fill(kid)
	}
	_ = append(e.Kids, some.Lit(some.Text("spoilt")))
	_ = append(e.Names, "spoilt")
}

func TestP8_2Lex(t *testing.T) {
	long := strings.Repeat(" ", 65536)
	wantParse(t, long+"1", api.Expr{}, api.ErrLong, 0)
	wantParse(t, "a"+long, api.Expr{}, api.ErrLong, 0)
	wantParse(t, long[1:]+"1", some.Lit(some.Num(1)), api.OK, 0)
	wantParse(t, long, api.Expr{}, api.ErrForm, 65536)
	wantParse(t, "007", api.Expr{}, api.ErrForm, 0)
	wantParse(t, "1 == 007", api.Expr{}, api.ErrForm, 5)
	wantParse(t, "9223372036854775808", api.Expr{}, api.ErrRange, 0)
	wantParse(t, "-9223372036854775808", api.Expr{}, api.ErrRange, 1)
	wantParse(t, "a b ) 9223372036854775808", api.Expr{}, api.ErrRange, 6) // ahead of where no expression is
	wantParse(t, `a b ) "c`, api.Expr{}, api.ErrForm, 6)
	wantParse(t, "a ?", api.Expr{}, api.ErrForm, 2)
	wantParse(t, "a = 1", api.Expr{}, api.ErrForm, 2)
	wantParse(t, strings.Repeat("(", 60)+"#", api.Expr{}, api.ErrForm, 60)
	wantParse(t, strings.Repeat("1+", 60)+"1 00", api.Expr{}, api.ErrForm, 122)
}

func TestP8_2Whole(t *testing.T) {
	wantParse(t, "a", api.Expr{}, api.ErrForm, 0) // the document's example
	wantParse(t, "1 + a", api.Expr{}, api.ErrForm, 4)
	wantParse(t, "// a\n 1 // b", some.Lit(some.Num(1)), api.OK, 0)
	wantParse(t, "1 // + 2", some.Lit(some.Num(1)), api.OK, 0)
	wantParse(t, "1 2", api.Expr{}, api.ErrForm, 2)
	wantParse(t, "1 ;", api.Expr{}, api.ErrForm, 2)
	wantParse(t, "1 == 2 //\n == 3", api.Expr{}, api.ErrForm, 11)
	wantParse(t, "1 2 00", api.Expr{}, api.ErrForm, 4)
	wantParse(t, "1 2 +", api.Expr{}, api.ErrForm, 2)
	wantParse(t, "1 "+strings.Repeat("(", 60), api.Expr{}, api.ErrForm, 2)
	path := some.Lit(some.Ref("A::B", "c"))
	wantParse(t, "A :: // b\n B\t::\r\n\"c\"", path, api.OK, 0)
	wantParse(t, "1 is A :: //\n B", some.Named(api.Is, "A::B", some.Lit(some.Num(1))), api.OK, 0)
}

// TestP8_2Deep has rows of operators, which nest without a deep reading.
func TestP8_2Deep(t *testing.T) {
	for _, c := range []struct{ first, again string }{
		{"1", " + 1"}, {"1", " - 1"}, {"1", "*1"}, {"true", " && true"}, {"true", " || true"}, {"context", ".a"}, {"context", `["a"]`}, {"context", ".contains(1)"}, {"[1]", ".containsAny([2])"}, {"principal", ".a.b"},
	} {
		for _, n := range []int{1, 23, 24, 25, 47, 48, 49, 50, 51, 100, 3000} {
			text := c.first + strings.Repeat(c.again, n)
			words := wordsOf(t, text)
			x, next, e, at := Read(words, 0)
			if next != len(words)-1 || e != api.OK || at != 0 { // its reading isn't deep
				t.Errorf("Read of %q and %d %q: %d, %d, %d", c.first, n, c.again, next, e, at)
			}
			if levels(x) > 50 {
				wantParse(t, text, api.Expr{}, api.ErrDeep, 0)
				wantParse(t, " "+text, api.Expr{}, api.ErrDeep, 0)
				wantParse(t, text+" )", api.Expr{}, api.ErrForm, len(text)+1) // ahead of it
			} else {
				wantParse(t, text, x, api.OK, 0)
			}
		}
	}
	row := "1" + strings.Repeat(" + 1", 49)
	if x, e, at := Parse(row); Depth(x) != 50 || e != api.OK {
		t.Errorf("a row of 50: %d, %d, %d", Depth(x), e, at)
	}
	wantParse(t, row+" + 1", api.Expr{}, api.ErrDeep, 0)
	wantParse(t, row+" == 1", api.Expr{}, api.ErrDeep, 0)
	wantParse(t, "1 == "+row, api.Expr{}, api.ErrDeep, 0)
	wantParse(t, "1"+strings.Repeat(" + 1", 47)+" != 1", mustRead(t, "1"+strings.Repeat(" + 1", 47)+" != 1"), api.OK, 0)
	wantParse(t, "1"+strings.Repeat(" + 1", 48)+" != 1", api.Expr{}, api.ErrDeep, 0)
	wantParse(t, "["+row+"]", api.Expr{}, api.ErrDeep, 0)
	wantParse(t, "("+row+")", mustRead(t, row), api.OK, 0)
	wantParse(t, "1"+strings.Repeat(" + 1", 32000), api.Expr{}, api.ErrLong, 0)
	wantParse(t, "1"+strings.Repeat("+1", 32000), api.Expr{}, api.ErrDeep, 0)
}

// mustRead is the expression that a text begins with.
func mustRead(t *testing.T, text string) api.Expr {
	t.Helper()
	x, _, e, at := Read(wordsOf(t, text), 0)
	if e != api.OK {
		t.Fatalf("Read of %.80q: %d, %d", text, e, at)
	}
	return x
}

func TestP8_2Uid(t *testing.T) {
	for _, c := range []struct {
		text string
		u    api.Uid
		next int
	}{
		{`A::"b"`, api.Uid{Type: "A", Id: "b"}, 3},
		{`A::""`, api.Uid{Type: "A"}, 3},
		{`A::B::"c"`, api.Uid{Type: "A::B", Id: "c"}, 5},
		{`A :: B // b` + "\n" + `:: "\"\x0a"`, api.Uid{Type: "A::B", Id: "\"\n"}, 5},
		{`A::"b"::"c"`, api.Uid{Type: "A", Id: "b"}, 3},
		{`A::"b".c`, api.Uid{Type: "A", Id: "b"}, 3},
		{`A::"b" "c"`, api.Uid{Type: "A", Id: "b"}, 3},
		{`A::"b", C::"d"`, api.Uid{Type: "A", Id: "b"}, 3},
		{`principal::"a"`, api.Uid{Type: "principal", Id: "a"}, 3},
		{`permit::when::"a"`, api.Uid{Type: "permit::when", Id: "a"}, 5},
		{`A::true::if::"b"`, api.Uid{Type: "A::true::if", Id: "b"}, 7},
	} {
		words := wordsOf(t, c.text)
		wantUid(t, words, 0, c.u, c.next, api.OK, 0)
		wantUid(t, words[:c.next], 0, c.u, c.next, api.OK, 0)
		wantUid(t, wordsOf(t, "1 + "+c.text), 2, c.u, c.next+2, api.OK, 0)
		wantToldFrom(t, words, 0)
	}
	for _, c := range []struct {
		text string
		at   int
	}{
		{"", 0}, {"A", 1}, {"A::", 3}, {"A::B", 4}, {"A::B::", 6}, {"A::1", 3}, {"A.b", 1}, {`A."b"`, 1}, {`A:"b"`, 1}, {`A "b"`, 2}, {`::"a"`, 0}, {`"A"::"b"`, 0}, {"1", 0}, {"?principal", 0}, {"principal", 9}, {`(A::"b")`, 0}, {`A::B "c"`, 5}, {"A::?principal", 3}, {`A:: ::"b"`, 4}, {`A::B::C("d")`, 7}, {`[A::"b"]`, 0}, {`!A::"b"`, 0},
		{`if::"a"`, 0}, {`true::"a"`, 0}, {`in::B::"a"`, 0}, {"has", 0}, {`false::"a"`, 0}, {`then::"a"`, 0}, {`else::"a"`, 0}, {`is::"a"`, 0}, {"if true then 1 else 2", 0},
	} {
		wantUid(t, wordsOf(t, c.text), 0, api.Uid{}, 0, api.ErrForm, c.at)
		wantToldFrom(t, wordsOf(t, c.text), 0)
	}
}

func TestP8_3Depth(t *testing.T) {
	one := some.Lit(some.Num(1))
	for _, c := range []struct {
		e api.Expr
		d int
	}{
		{api.Expr{}, 1},
		{one, 1},
		{some.Lit(some.Tower(40, some.Num(1))), 1}, // a value isn't a Kid
		{api.Expr{Op: api.MakeRecord, Names: []string{"a", "b"}}, 1},
		{some.Op(api.Not, one), 2},
		{some.Op(api.Eq, one, some.Op(api.Neg, one)), 3},
		{some.Op(api.Eq, some.Op(api.Neg, some.Op(api.Neg, one)), some.Op(api.Neg, one)), 4},
		{some.Op(api.If, one, some.Op(api.MakeSet), some.Op(api.MakeSet, one)), 3},
		{some.Op(api.Lit, one), 2}, // whatever the Op, and how many Kids it should have
		{some.Op(0, one, one, one, one), 2},
		{some.Op(-7, some.Op(99, some.Op(api.Var, one))), 4},
		{api.Expr{Op: api.MakeSet, Kids: []api.Expr{}}, 1},
	} {
		if d := Depth(c.e); d != c.d {
			t.Errorf("Depth of %+v: %d, not %d", c.e, d, c.d)
		}
	}
	deep := one
	for range 1<<16 - 1 {
		deep = some.Op(api.Not, deep)
	}
	if d := Depth(deep); d != 1<<16 {
		t.Errorf("Depth of a tower: %d", d)
	}
	wide := api.Expr{Op: api.MakeSet}
	for i := range 10000 {
		wide.Kids = append(wide.Kids, one)
		if i == 5000 {
			wide.Kids = append(wide.Kids, some.Op(api.Not, one))
		}
	}
	if d := Depth(wide); d != 3 {
		t.Errorf("Depth of a wide one: %d", d)
	}
	for _, l := range makeAll(1000) {
		x, _, e, _ := Read(wordsOf(t, strings.Join(l, " ")), 0)
		if e == api.OK && Depth(x) != levels(x) {
			t.Errorf("Depth of %q: %d, not %d", l, Depth(x), levels(x))
		}
	}
}

// TestP8_4 asks that all that is read is nested no deeper than allowed, around the limit: towers of what nests, by turns.
func TestP8_4(t *testing.T) {
	chance := rand.New(rand.NewSource(4))
	layers := [][2]string{{"(", ")"}, {"[", "]"}, {"{a: ", "}"}, {"!", ""}, {"-", ""}, {"if 1 then 2 else ", ""}, {"", " + 1"}, {"1 * (", ")"}, {"(", ").a"}, {"(1 != ", ")"}, {"(", " && true)"}, {"context.contains(", ")"}, {"", ` has a`}}
	counts := map[api.Errno]int{}
	for range 4000 {
		text := "1"
		for range 15 + chance.Intn(40) {
			layer := layers[chance.Intn(len(layers))]
			text = layer[0] + text + layer[1]
		}
		x, e, _ := Parse(text)
		counts[e]++
		if levels(x) > 50 {
			t.Errorf("Parse(%q): nested %d deep", text, levels(x))
		}
		wantTold(t, text)
	}
	for _, e := range []api.Errno{api.OK, api.ErrDeep, api.ErrForm} {
		if counts[e] < 100 {
			t.Errorf("error %d: %d times, too few to tell much", e, counts[e])
		}
	}
	for _, n := range []int{48, 49} {
		text := "true" + strings.Repeat(" && true", n)
		wantParse(t, text, mustRead(t, text), api.OK, 0)
	}
}
