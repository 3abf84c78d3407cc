package policy

import (
	"fmt"
	"math/rand"
	"slices"
	"strings"
	"testing"

	"chamberlain/api"
	"chamberlain/expr"
	"chamberlain/some"
)

const all = "(principal, action, resource)" // the scopes of a policy that takes all

// with is a policy of that Id that takes all, and has some conditions.
func with(id string, permit bool, conds ...api.Cond) api.Policy {
	return api.Policy{Id: id, Permit: permit, Conds: conds}
}

// parsed is the expression of a text that has one.
func parsed(t *testing.T, text string) api.Expr {
	t.Helper()
	x, e, at := expr.Parse(text)
	if e != api.OK {
		t.Fatalf("Parse(%q): %d at %d", text, e, at)
	}
	return x
}

// wantAnswer holds what Parse answers against all of an answer.
func wantAnswer(t *testing.T, text string, l []api.Policy, e api.Errno, at int) {
	t.Helper()
	m, f, n := Parse(text)
	if !some.EqualPolicies(l, m) || e != f || at != n {
		t.Fatalf("Parse(%.400q): %s, %d, %d; not %s, %d, %d", text, clipped(m), f, n, clipped(l), e, at)
	}
}

// clipped tells the first few policies.
func clipped(l []api.Policy) string {
	return fmt.Sprintf("%d policies %.400s", len(l), fmt.Sprintf("%+v", l[:min(len(l), 2)]))
}

// wantPolicies wants policies of a text, whatever its oracle says.
func wantPolicies(t *testing.T, text string, l ...api.Policy) {
	t.Helper()
	wantAnswer(t, text, l, api.OK, 0)
	wantTold(t, text)
}

// wantError wants an error at a place, and no policies: in a text by itself, and behind a policy.
func wantError(t *testing.T, text string, e api.Errno, at int) {
	t.Helper()
	wantAnswer(t, text, nil, e, at)
	const ahead = `@id("ahead") forbid` + all + " when { 1 == 1 };\n"
	wantAnswer(t, ahead+text, nil, e, len(ahead)+at)
	wantTold(t, text)
}

// wantTold holds what is answered of a text against the oracle.
func wantTold(t *testing.T, text string) {
	t.Helper()
	l, e, at := told(text)
	wantAnswer(t, text, l, e, at)
}

// wantRows holds all rows of up to n pieces, with something ahead of them and something behind them, against the oracle.
func wantRows(t *testing.T, n int, ahead, pieces, behind string) {
	t.Helper()
	for _, l := range some.Lists(n, strings.Fields(pieces)) {
		row := ahead + " " + strings.Join(l, " ")
		wantTold(t, row)
		wantTold(t, row+" "+behind)
	}
}

func TestP9_1Policies(t *testing.T) {
	wantPolicies(t, "")
	wantPolicies(t, " \n// permit")
	wantPolicies(t, "permit(principal, action, resource);", with("policy0", true)) // the document's example
	wantPolicies(t, "forbid(principal, action, resource);", with("policy0", false))
	wantPolicies(t, "permit//\n(principal\t,action,\r\nresource\n)// ;\n;", with("policy0", true))
	wantPolicies(t, "permit"+all+";forbid"+all+";\n\npermit"+all+"; //", with("policy0", true), with("policy1", false), with("policy2", true))
	wantPolicies(t, "permit"+all+" when { true };", with("policy0", true, api.Cond{When: true, E: parsed(t, "true")}))
	wantPolicies(t, "forbid"+all+"unless{1};", with("policy0", false, api.Cond{E: parsed(t, "1")}))
	wantPolicies(t, "permit"+all+" unless { false } when { {} } when { [] } unless { action in {a: 1} };", with("policy0", true,
		api.Cond{E: parsed(t, "false")}, api.Cond{When: true, E: parsed(t, "{}")}, api.Cond{When: true, E: parsed(t, "[]")}, api.Cond{E: parsed(t, "action in {a: 1}")}))
	wantPolicies(t, "permit"+all+" when { (if 1 then 2 else 3) == 4 || principal has when && context.unless };", with("policy0", true,
		api.Cond{When: true, E: parsed(t, "(if 1 then 2 else 3) == 4 || principal has when && context.unless")}))
	wantPolicies(t, `permit(principal is A::B in A::"p", action in [A::"a", B::"b"], resource == A::B::"r") when { true }; @id("x")forbid`+all+";",
		api.Policy{
			Id: "policy0", Permit: true,
			Principal: api.Scope{Kind: api.Both, Type: "A::B", Uid: some.Uid("A/p")},
			Action:    api.Scope{Kind: api.OneOf, List: some.Uids("A/a B/b")},
			Resource:  api.Scope{Kind: api.Equal, Uid: some.Uid("A::B/r")},
			Conds:     []api.Cond{{When: true, E: parsed(t, "true")}},
		}, with("x", false))
}

func TestP9_1Ids(t *testing.T) {
	for _, c := range []struct{ quoted, id string }{
		{`""`, ""}, {`"a"`, "a"}, {`"policy0"`, "policy0"}, {`"policy00"`, "policy00"}, {`"\"\\\x0a\xff"`, "\"\\\n\xff"}, {`"permit(principal, action, resource);"`, "permit(principal, action, resource);"}, {`"// a"`, "// a"},
	} {
		wantPolicies(t, "@id("+c.quoted+")permit"+all+";", with(c.id, true))
		wantPolicies(t, "@ id\n(\t"+c.quoted+"//)\n) forbid"+all+";", with(c.id, false))
		wantPolicies(t, "@id(\"first\") permit"+all+"; @id("+c.quoted+") forbid"+all+";", with("first", true), with(c.id, false))
	}
	wantPolicies(t, `@id("a")permit`+all+";permit"+all+`;@id("policy0")permit`+all+";permit"+all+";", with("a", true), with("policy1", true), with("policy0", true), with("policy3", true)) // the number is that in the text
	text := ""
	var l []api.Policy
	for i := range 1100 {
		if i%7 == 3 {
			text += fmt.Sprintf("@id(\"%d\")permit%s;", i, all)
			l = append(l, with(fmt.Sprint(i), true))
			continue
		}
		text += "forbid" + all + ";"
		l = append(l, with(fmt.Sprint("policy", i), false))
	}
	wantAnswer(t, text, l, api.OK, 0)
}

// scopes are those that a principal or resource may have, but for slots, and what they mean.
func scopes() map[string]api.Scope {
	uid := some.Uid
	return map[string]api.Scope{
		"":                            {Kind: api.Any},
		` == A::"a"`:                  {Kind: api.Equal, Uid: uid("A/a")},
		`==A :: B//` + "\n" + `::""`:  {Kind: api.Equal, Uid: uid("A::B/")},
		` in A::"a"`:                  {Kind: api.Within, Uid: uid("A/a")},
		` in in_::in::"in"`:           {Kind: api.Within, Uid: uid("in_::in/in")},
		` in principal::"?principal"`: {Kind: api.Within, Uid: uid("principal/?principal")},
		` == permit::when::"a"`:       {Kind: api.Equal, Uid: uid("permit::when/a")},
		" is A":                       {Kind: api.OfType, Type: "A"},
		" is A::B::C":                 {Kind: api.OfType, Type: "A::B::C"},
		" is A :: //\n B":             {Kind: api.OfType, Type: "A::B"},
		" is principal":               {Kind: api.OfType, Type: "principal"},
		" is A::in::true::is":         {Kind: api.OfType, Type: "A::in::true::is"},
		" is action::resource":        {Kind: api.OfType, Type: "action::resource"},
		` is A in A::"a"`:             {Kind: api.Both, Type: "A", Uid: uid("A/a")},
		` is A::B in C::D::"a"`:       {Kind: api.Both, Type: "A::B", Uid: uid("C::D/a")},
		` is A::in in B::"a"`:         {Kind: api.Both, Type: "A::in", Uid: uid("B/a")},
	}
}

func TestP9_1Scopes(t *testing.T) {
	for text, s := range scopes() {
		wantPolicies(t, "permit(principal"+text+", action, resource);", api.Policy{Id: "policy0", Permit: true, Principal: s})
		wantPolicies(t, "forbid(principal, action, resource"+text+");", api.Policy{Id: "policy0", Resource: s})
		wantPolicies(t, "forbid(principal"+text+", action, resource"+text+");", api.Policy{Id: "policy0", Principal: s, Resource: s})
	}
	for text, s := range map[string]api.Scope{
		" == ":          {Kind: api.Equal, Slot: true},
		" in ":          {Kind: api.Within, Slot: true},
		" is A in ":     {Kind: api.Both, Type: "A", Slot: true},
		" is A::B in\n": {Kind: api.Both, Type: "A::B", Slot: true},
	} {
		wantPolicies(t, "permit(principal"+text+"?principal, action, resource);", api.Policy{Id: "policy0", Permit: true, Principal: s})
		wantPolicies(t, "forbid(principal, action, resource"+text+"?resource);", api.Policy{Id: "policy0", Resource: s})
		wantPolicies(t, "permit(principal"+text+"?principal, action, resource"+text+"?resource);", api.Policy{Id: "policy0", Permit: true, Principal: s, Resource: s})
	}
	for text, s := range map[string]api.Scope{
		"":                                     {Kind: api.Any},
		` == A::"a"`:                           {Kind: api.Equal, Uid: some.Uid("A/a")},
		` == Action::B::"view"`:                {Kind: api.Equal, Uid: some.Uid("Action::B/view")},
		` in A::"a"`:                           {Kind: api.Within, Uid: some.Uid("A/a")},
		" in []":                               {Kind: api.OneOf},
		` in [A::"a"]`:                         {Kind: api.OneOf, List: some.Uids("A/a")},
		` in[A::"b",A::"a",A::"b",action::""]`: {Kind: api.OneOf, List: some.Uids("A/b A/a A/b action/")},
		" in [A :: \"a\"// ]\n, B::C::\"d\" ]": {Kind: api.OneOf, List: some.Uids("A/a B::C/d")},
	} {
		wantPolicies(t, "permit(principal, action"+text+", resource);", api.Policy{Id: "policy0", Permit: true, Action: s})
		wantPolicies(t, `permit(principal == ?principal, action`+text+`, resource is A);`, api.Policy{
			Id: "policy0", Permit: true, Principal: api.Scope{Kind: api.Equal, Slot: true}, Action: s, Resource: api.Scope{Kind: api.OfType, Type: "A"},
		})
	}
	long := strings.Repeat(`A::"a",`, 8000)
	wantAnswer(t, "permit(principal, action in ["+long+`A::"a"], resource);`, []api.Policy{{Id: "policy0", Permit: true, Action: api.Scope{Kind: api.OneOf, List: slices.Repeat(some.Uids("A/a"), 8001)}}}, api.OK, 0)
	wantAnswer(t, "permit(principal, action in ["+long+"], resource);", nil, api.ErrForm, 29+len(long))
	path := strings.Repeat("A::", 20000) + "A"
	wantAnswer(t, "permit(principal is "+path+", action, resource);", []api.Policy{{Id: "policy0", Permit: true, Principal: api.Scope{Kind: api.OfType, Type: path}}}, api.OK, 0)
}

func TestP9_1Form(t *testing.T) {
	for _, c := range []struct {
		text string
		at   int
	}{
		{"a", 0}, {";", 0}, {"(", 0}, {"principal", 0}, {"when", 0}, {"Permit" + all + ";", 0}, {"?permit", 0}, {`"permit"` + all + ";", 0}, {"1", 0}, {"}", 0}, {"true", 0}, {"::", 0}, {"id", 0},
		{"permit", 6}, {"permit ", 7}, {"permit principal", 7}, {"permit;", 6}, {"permit{", 6}, {"permit permit", 7}, {"permit[", 6}, {`permit "("`, 7}, {"forbid @", 7}, {"forbid", 6},
		{"permit(", 7}, {"permit()", 7}, {"permit(action", 7}, {"permit(resource", 7}, {"permit(?principal", 7}, {`permit("principal"`, 7}, {"permit(Principal", 7}, {`permit(A::"a"`, 7}, {"permit((", 7}, {"permit(,", 7},
		{"permit(principal", 16}, {"permit(principal;", 16}, {"permit(principal)", 16}, {"permit(principal action", 17}, {"permit(principal = ", 17}, {"permit(principal.a", 16}, {"permit(principal::", 16}, {`permit(principal::"a"`, 16}, {"permit(principal ?principal", 17}, {"permit(principal != ", 17}, {"permit(principal has a", 17}, {"permit(principal , ,", 19},
		{"permit(principal ==", 19}, {"permit(principal == ,", 20}, {"permit(principal == A", 21}, {"permit(principal == A,", 21}, {"permit(principal == A::", 23}, {"permit(principal == A::B,", 24}, {"permit(principal == 1", 20}, {`permit(principal == "a"`, 20}, {"permit(principal == principal", 29}, {`permit(principal == [A::"a"]`, 20}, {`permit(principal == (A::"a")`, 20}, {`permit(principal == if::"a"`, 20}, {`permit(principal == A::"a"::"b"`, 26}, {`permit(principal == A::"a" in`, 27}, {`permit(principal == A::"a".b`, 26}, {"permit(principal == == ", 20},
		{"permit(principal in", 19}, {"permit(principal in ,", 20}, {"permit(principal in A", 21}, {"permit(principal in A::B::1", 26}, {`permit(principal in [A::"a"]`, 20}, {"permit(principal in []", 20}, {`permit(principal in A::"a" is B`, 27}, {`permit(principal in in::"a"`, 20}, {`permit(principal in A::"a" in A::"b"`, 27}, {`permit(principal in A::"a" ==`, 27}, {"permit(principal in ?principal in", 31}, {"permit(principal == ?principal ?principal", 31},
		{"permit(principal is", 19}, {"permit(principal is ,", 20}, {"permit(principal is in", 20}, {"permit(principal is is", 20}, {"permit(principal is if", 20}, {"permit(principal is then", 20}, {"permit(principal is else", 20}, {"permit(principal is true", 20}, {"permit(principal is false", 20}, {"permit(principal is has", 20}, {"permit(principal is true::A", 20}, {"permit(principal is ?principal", 20}, {`permit(principal is "A"`, 20}, {"permit(principal is 1", 20}, {"permit(principal is ::A", 20}, {"permit(principal is :: A::B", 20}, {"permit(principal is [A]", 20}, {"permit(principal is (A)", 20}, {"permit(principal is ( :: A", 20},
		{"permit(principal is A", 21}, {"permit(principal is A::", 21}, {"permit(principal is A::B::", 24}, {`permit(principal is A::"a"`, 21}, {`permit(principal is A::B::"a"`, 24}, {"permit(principal is A::1", 21}, {"permit(principal is A:: ::B", 21}, {"permit(principal is A B", 22}, {"permit(principal is A.b", 21}, {"permit(principal is A is B", 22}, {"permit(principal is A == ", 22}, {"permit(principal is A && true", 22}, {"permit(principal is A || true", 22}, {"permit(principal is A:B", 21}, {"permit(principal is A)", 21}, {"permit(principal is A in", 24}, {"permit(principal is A in ,", 25}, {"permit(principal is A in B", 26}, {`permit(principal is A in [B::"a"]`, 25}, {`permit(principal is A in B::"a" in`, 32}, {"permit(principal is A in is", 25}, {"permit(principal is A in ?principal is", 36},
		{"permit(principal,", 17}, {"permit(principal, resource", 18}, {"permit(principal, principal", 18}, {"permit(principal, Action", 18}, {`permit(principal, "action"`, 18}, {"permit(principal, ?action", 18}, {"permit(principal, )", 18},
		{"permit(principal, action", 24}, {"permit(principal, action)", 24}, {"permit(principal, action resource", 25}, {"permit(principal, action is A", 25}, {`permit(principal, action::"a"`, 24}, {"permit(principal, action ==", 27}, {"permit(principal, action == ,", 28}, {"permit(principal, action == A,", 29}, {`permit(principal, action == "a"`, 28}, {`permit(principal, action == [A::"a"]`, 28}, {"permit(principal, action == ?action", 28}, {"permit(principal, action == ?principal", 28}, {`permit(principal, action == A::"a" in`, 35}, {`permit(principal, action == A::"a",,`, 35},
		{"permit(principal, action in", 27}, {"permit(principal, action in ,", 28}, {"permit(principal, action in ?resource", 28}, {"permit(principal, action in A", 29}, {`permit(principal, action in A::"a", A::"b"`, 36}, {`permit(principal, action in (A::"a")`, 28}, {`permit(principal, action in {A::"a"}`, 28}, {`permit(principal, action in A::"a"]`, 34},
		{"permit(principal, action in [", 29}, {"permit(principal, action in [,", 29}, {"permit(principal, action in [)", 29}, {"permit(principal, action in [A", 30}, {"permit(principal, action in [A]", 30}, {`permit(principal, action in ["a"]`, 29}, {"permit(principal, action in [[", 29}, {"permit(principal, action in [?principal]", 29}, {"permit(principal, action in [1]", 29}, {"permit(principal, action in [action]", 35}, {`permit(principal, action in [true::"a"]`, 29},
		{`permit(principal, action in [A::"a"`, 35}, {`permit(principal, action in [A::"a")`, 35}, {`permit(principal, action in [A::"a" A::"b"`, 36}, {`permit(principal, action in [A::"a",`, 36}, {`permit(principal, action in [A::"a",]`, 36}, {`permit(principal, action in [A::"a",,`, 36}, {`permit(principal, action in [A::"a", ?resource]`, 37}, {`permit(principal, action in [A::"a", B::"b"`, 43}, {`permit(principal, action in [A::"a"; B::"b"]`, 35}, {"permit(principal, action in [])", 30}, {"permit(principal, action in [] in", 31}, {"permit(principal, action in []]", 30},
		{"permit(principal, action,", 25}, {"permit(principal, action, principal", 26}, {"permit(principal, action, ?resource", 26}, {"permit(principal, action, action", 26}, {"permit(principal, action, )", 26}, {`permit(principal, action, "resource"`, 26},
		{"permit(principal, action, resource", 34}, {"permit(principal, action, resource;", 34}, {"permit(principal, action, resource,", 34}, {"permit(principal, action, resource ==", 37}, {"permit(principal, action, resource == )", 38}, {"permit(principal, action, resource in [", 38}, {"permit(principal, action, resource is )", 38}, {"permit(principal, action, resource is A,", 39}, {"permit(principal, action, resource is A in )", 43}, {`permit(principal, action, resource == A::"a",`, 44}, {"permit(principal, action, resource = ", 35},
		{"permit" + all, 35}, {"permit" + all + ")", 35}, {"permit" + all + ",", 35}, {"permit" + all + " permit" + all + ";", 36}, {"permit" + all + " // ;", 40}, {"permit" + all + " {", 36}, {"permit" + all + " { true };", 36}, {"permit" + all + ";;", 36}, {"permit" + all + "; when { true };", 37}, {"permit" + all + " if { true };", 36}, {"permit" + all + " When { true };", 36}, {"permit" + all + ` "when" { true };`, 36}, {"permit" + all + " ?when { true };", 36}, {"permit" + all + ":", 35}, {"permit" + all + "; }", 37},
		{"permit" + all + " when", 40}, {"permit" + all + " when;", 40}, {"permit" + all + " when true;", 41}, {"permit" + all + " when (true);", 41}, {"permit" + all + " when unless", 41}, {"permit" + all + " unless [", 43}, {"permit" + all + " unless", 42},
		{"permit" + all + " when {", 42}, {"permit" + all + " when {}", 42}, {"permit" + all + " when {};", 42}, {"permit" + all + " when { ; }", 43}, {"permit" + all + " when { a }", 43}, {"permit" + all + " when { 1 + }", 47}, {"permit" + all + " when { ?a }", 43}, {"permit" + all + " when { when }", 43}, {"permit" + all + " when { 1.a(2) }", 46}, {"permit" + all + " when { true", 47}, {"permit" + all + " when { true;", 47}, {"permit" + all + " when { true false }", 48}, {"permit" + all + " when { true, false }", 47}, {"permit" + all + " when { true )", 48}, {"permit" + all + " when { 1 == 2 == 3 }", 50}, {"permit" + all + " when { { } ;", 47}, {"permit" + all + " when { true } }", 50}, {"permit" + all + " when { true } and", 50}, {"permit" + all + " when { true } { true };", 50}, {"permit" + all + " when { true }", 49}, {"permit" + all + " when { true } when", 54}, {"permit" + all + " when { true } unless { }", 59},
		{"@", 1}, {"@;", 1}, {"@ permit", 2}, {"@(", 1}, {`@"id"`, 1}, {"@Id", 1}, {"@name", 1}, {"@?id", 1}, {"@@", 1}, {"@id", 3}, {"@id;", 3}, {`@id "a"`, 4}, {`@id["a"]`, 3}, {"@id permit", 4}, {"@id(", 4}, {"@id()", 4}, {"@id(a)", 4}, {"@id(1)", 4}, {"@id(?a)", 4}, {`@id(("a")`, 4}, {`@id("a"`, 7}, {`@id("a"]`, 7}, {`@id("a" "b")`, 8}, {`@id("a", "b")`, 7}, {`@id("a" + "b")`, 8},
		{`@id("a")`, 8}, {`@id("a");`, 8}, {`@id("a") @id("b")`, 9}, {`@id("a") allow`, 9}, {`@id("a") (`, 9}, {`@id("a") permit`, 15}, {`@id("a") permit @id("b")`, 16}, {`@id("a") "permit"`, 9}, {"permit @id(\"a\")" + all, 7}, {"permit" + all + " @id(\"a\");", 36}, {"permit" + all + "; @id(\"a\")", 45}, {"permit" + all + "; permit", 43}, {"permit" + all + "; a", 37},
	} {
		wantError(t, c.text, api.ErrForm, c.at)
		if strings.HasPrefix(c.text, "permit") {
			wantError(t, "@id(\"x\")\n//\n"+c.text, api.ErrForm, c.at+12)
		}
	}
}

// TestP9_1Lex has texts with a word that is none: it is told, whatever stands ahead of it.
func TestP9_1Lex(t *testing.T) {
	blanks := strings.Repeat(" ", 65536)
	wantAnswer(t, blanks, nil, api.OK, 0)
	wantAnswer(t, blanks+" ", nil, api.ErrLong, 0)
	wantAnswer(t, "permit"+all+";"+blanks, nil, api.ErrLong, 0)
	wantAnswer(t, "a"+blanks, nil, api.ErrLong, 0)
	wantAnswer(t, "permit"+blanks[len("permit"+all+";"):]+all+";", []api.Policy{with("policy0", true)}, api.OK, 0)
	wantAnswer(t, blanks[1:]+"a", nil, api.ErrForm, 65535)
	wantAnswer(t, blanks[6:]+"permit", nil, api.ErrForm, 65536)
	const above = "9223372036854775808"
	for _, ahead := range []string{"", "a ", "permit" + all + "; ", "permit(principal == ?resource ", "permit" + all + " when { ?principal } ", "@ ", strings.Repeat("permit"+all+";", 2) + `@id("policy0")permit` + all + "; ", "permit" + all + " when { " + strings.Repeat("(", 60)} {
		wantAnswer(t, ahead+"007", nil, api.ErrForm, len(ahead))
		wantAnswer(t, ahead+"\"a", nil, api.ErrForm, len(ahead))
		wantAnswer(t, ahead+"? ;", nil, api.ErrForm, len(ahead))
		wantAnswer(t, ahead+"= 007", nil, api.ErrForm, len(ahead))
		wantAnswer(t, ahead+above, nil, api.ErrRange, len(ahead))
		wantAnswer(t, ahead+above+" #", nil, api.ErrRange, len(ahead))
	}
	wantError(t, "permit"+all+" when { 1 == "+above+" };", api.ErrRange, 48)
}

// TestP9_1ScopeSlots has slots in scopes, where a place may be and where none may.
func TestP9_1ScopeSlots(t *testing.T) {
	wantError(t, "permit(principal == ?resource, action, resource);", api.ErrSlot, 20) // the document's example
	for _, how := range []string{" == ", " in ", " is A in ", " is A::B in\n"} {
		for _, slot := range []string{"?resource", "?action", "?context", "?a", "?Principal", "?principal_", "?principals", "?_", "?is", "?resource in", "?resource ?resource", "?a = b"} {
			e, at := api.ErrSlot, len(how)
			if strings.Contains(slot, "=") {
				e, at = api.ErrForm, len(how)+3 // no word: lex's error
			}
			wantError(t, "permit(principal"+how+slot+", action, resource);", e, 16+at)
			wantError(t, "permit(principal"+how+slot, e, 16+at)
			slot = strings.ReplaceAll(slot, "resource", "principal")
			wantError(t, "permit(principal, action, resource"+how+slot+");", e, 34+at)
			wantError(t, "permit(principal == ?principal, action, resource"+how+slot, e, 48+at)
		}
		wantError(t, "permit(principal"+how+"?principal, action, resource"+how+"?principal);", api.ErrSlot, 16+len(how)+28+len(how))
		wantError(t, "permit(principal"+how+"?resource, action, resource"+how+"?principal);", api.ErrSlot, 16+len(how)) // the first one that is met
		wantError(t, "permit(principal"+how+"?resource, action in ?action, resource);", api.ErrSlot, 16+len(how))
		wantError(t, "permit(principal"+how+"?resource) when {", api.ErrSlot, 16+len(how))
		wantError(t, "permit(principal"+how+"?principal, action == ?action, resource"+how+"?a);", api.ErrForm, 38+len(how))
	}
}

// slotted are scopes with and without slots, as what stands behind a permit.
func slotted() map[string][2]bool {
	l := map[string][2]bool{}
	for p, hasPrincipal := range map[string]bool{"": false, ` == A::"?principal"`: false, " is A": false, " == ?principal": true, " in ?principal": true, " is A in ?principal": true} {
		for r, hasResource := range map[string]bool{"": false, ` in A::"a"`: false, ` is A in A::"a"`: false, " == ?resource": true, " in ?resource": true, " is A in ?resource": true} {
			l["(principal"+p+", action, resource"+r+")"] = [2]bool{hasPrincipal, hasResource}
		}
	}
	return l
}

// TestP9_1CondSlots has slots in conditions, of policies whose scopes have them and of others.
func TestP9_1CondSlots(t *testing.T) {
	wraps := []string{"%s", "(%s)", "%s == 1", "1 == %s", "!%s", "-%s", "%s.a", "%s has a", "%s is A", "[1, %s]", "{a: 1, b: %s}", "if %s then 1 else 2", "if 1 then %s else 2", "if 1 then 2 else %s", "1 > %s", "%s != 1",
		"context.contains(%s)", "%s.containsAll([])", "context.containsAny(%s)", "principal in %s", "true || 1 + 2 * %s", "[[[[%s]]], 1]", "%s && principal == resource", "{a: [%s]}.a", "1 - (2 - (3 - -(%s)))"}
	for scopes, has := range slotted() {
		for _, wrap := range wraps {
			for i, slot := range []string{"?principal", "?resource"} {
				text := strings.ReplaceAll(wrap, "%s", slot)
				head := "permit" + scopes + " when {"
				if !has[i] {
					wantError(t, head+text+"};", api.ErrSlot, len(head))
					wantError(t, head+"\n"+text+"//\n}", api.ErrSlot, len(head)+1)
					wantError(t, head+" true } unless { "+text+" } when { a };", api.ErrSlot, len(head)+17)
					wantError(t, head+text+" false };", api.ErrForm, len(head)+len(text)+1) // the brace is never read
					wantError(t, head+text, api.ErrForm, len(head)+len(text))
					continue
				}
				x := parsed(t, text)
				l, e, at := Parse(head + text + "} unless { " + text + " };")
				if len(l) != 1 || e != api.OK || at != 0 || len(l[0].Conds) != 2 || !some.EqualExpr(l[0].Conds[0].E, x) || !some.EqualExpr(l[0].Conds[1].E, x) {
					t.Errorf("Parse of %q, twice: %s, %d, %d", head+text, clipped(l), e, at)
				}
			}
		}
		wantTold(t, "permit"+scopes+" when { [?principal, ?resource] };")
		wantTold(t, "permit"+scopes+" unless { ?principal } when { ?resource };")
		wantError(t, "permit"+scopes+"; forbid"+all+" when { ?principal };", api.ErrSlot, len(scopes)+51) // another policy's slot is none
		wantError(t, "forbid"+all+" unless { ?resource }; permit"+scopes+";", api.ErrSlot, 45)
	}
	const none = `principal == A::"?principal" && "?resource" == resource`
	wantPolicies(t, "permit"+all+" when { "+none+" };", with("policy0", true, api.Cond{When: true, E: parsed(t, none)}))
}

// TestP9_1Deep has expressions whose reading is deep, and such that nest without a deep reading.
func TestP9_1Deep(t *testing.T) {
	const head = "permit" + all + " when { "
	row := func(n int) string { return "1" + strings.Repeat(" + 1", n) }
	wantPolicies(t, head+row(49)+" };", with("policy0", true, api.Cond{When: true, E: parsed(t, row(49))}))
	for _, deep := range []string{row(50), row(51), row(400), row(49) + " == 1", "1 == " + row(49), "[" + row(49) + "]", "( " + row(50) + ")", "principal" + strings.Repeat(".a", 50), "true" + strings.Repeat(" && true", 50), row(48) + " != 1", "?principal == " + row(50)} {
		wantError(t, head+deep+" };", api.ErrDeep, len(head))
		wantError(t, head+"//\n  "+deep+" } a", api.ErrDeep, len(head)+5)
		wantError(t, head+"true } unless { "+deep+"}", api.ErrDeep, len(head)+16)
		wantError(t, head+deep, api.ErrForm, len(head)+len(deep)) // the brace is never read
		wantError(t, head+deep+" )", api.ErrForm, len(head)+len(deep)+1)
		wantError(t, head+deep+" };"+head+"a", api.ErrDeep, len(head))
		wantError(t, head+"?resource } when { "+deep+" };", api.ErrSlot, len(head))
		wantError(t, head+"a } when { "+deep+" };", api.ErrForm, len(head))
	}
	for _, c := range []struct {
		opens, inner, closes string
		most                 int
	}{{"(", "1", ")", 24}, {"[", "1", "]", 24}, {"!", "true", "", 48}, {"- ", "1", "", 48}, {"if 1 then 2 else ", "3", "", 48}} {
		good := strings.Repeat(c.opens, c.most) + c.inner + strings.Repeat(c.closes, c.most)
		bad := c.opens + good + c.closes
		when := api.Cond{When: true, E: parsed(t, good)}
		wantPolicies(t, head+good+" } when { "+good+"}; "+head+good+"};", with("policy0", true, when, when), with("policy1", true, when)) // each one's reading begins anew
		_, e, at := expr.Parse(bad)
		for _, behind := range []string{" };", "", " } ( a", " a"} {
			wantError(t, head+bad+behind, e, len(head)+at)
		}
		if e != api.ErrDeep {
			t.Errorf("Parse(%q): %d", bad, e)
		}
	}
	wantError(t, head+strings.Repeat("(", 40), api.ErrDeep, len(head)+25)
	wantError(t, head+strings.Repeat("(", 24)+"?principal", api.ErrForm, len(head)+34)
	wantAnswer(t, head+"1"+strings.Repeat("+1", 32000)+"};", nil, api.ErrDeep, len(head))
	wantAnswer(t, head+strings.Repeat("(", 65000), nil, api.ErrDeep, len(head)+25)
	slot := "permit(principal == ?principal, action, resource) when { "
	wantError(t, slot+"?principal == "+row(50)+" };", api.ErrDeep, len(slot))
	wantError(t, slot+"?resource == "+row(50)+" };", api.ErrDeep, len(slot)) // ahead of the slot
	wantError(t, slot+"?resource == "+row(40)+" };", api.ErrSlot, len(slot))
}

// TestP9_1First has several errors: the first one that is met is told.
func TestP9_1First(t *testing.T) {
	const good = "permit" + all + ";"
	wrong := []struct {
		text string
		e    api.Errno
		at   int
	}{
		{"a", api.ErrForm, 0},
		{"permit(principal == ?resource, action, resource);", api.ErrSlot, 20},
		{"permit" + all + " when { ?principal };", api.ErrSlot, 43},
		{"permit" + all + " when { " + strings.Repeat("1 - ", 50) + "1 };", api.ErrDeep, 43},
		{"permit" + all + " when { " + strings.Repeat("-", 60) + "1 };", api.ErrDeep, 92},
		{"permit" + all + " unless { 1 + };", api.ErrForm, 49},
		{"permit(principal, action == action, resource);", api.ErrForm, 34},
		{good + `@id("policy0")` + good + ")", api.ErrForm, 86},
		{`@id("policy1")` + good + good + "permit(principal in ?a", api.ErrSlot, 106},
	}
	for _, first := range wrong {
		for _, second := range wrong {
			wantError(t, first.text+second.text, first.e, first.at)
			wantError(t, good[:len(good)-1]+" when { true }; "+first.text+" "+second.text, first.e, 51+first.at)
		}
		wantError(t, good+`@id("policy0")`+good+first.text, first.e, 86+first.at) // ErrTwice is asked behind the last one
	}
}

func TestP9_1Twice(t *testing.T) {
	const one = "permit" + all + ";"
	const other = `forbid(principal in ?principal, action in [], resource is A) when { true };`
	for _, text := range []string{
		`@id("a")` + one + `@id("a")` + one, `@id("a")` + one + `@id("a")` + other, `@id("a")` + other + one + one + `@id("b")` + one + `@id("a")` + one, `@id("")` + one + `@id("")` + other,
		one + `@id("policy0")` + other, `@id("policy1")` + one + other, one + other + one + `@id("policy1")` + one, `@id("policy3")` + one + other + one + other,
		`@id("\x0a")` + one + `@id("\x0a")` + other, `@id("a")` + one + `@id("a")` + one + `@id("a")` + one, one + `@id("b")` + one + `@id("b")` + one,
	} {
		wantAnswer(t, text, nil, api.ErrTwice, 0)
		wantAnswer(t, " // a\n"+text+" // b", nil, api.ErrTwice, 0)
		wantTold(t, text)
	}
	for _, text := range []string{
		`@id("a")` + one + `@id("A")` + one, `@id("a")` + one + `@id("a ")` + one, `@id("")` + one + `@id(" ")` + one, one + one, `@id("policy0")` + one + one, `@id("policy2")` + one + one,
		one + `@id("policy2")` + one, one + `@id("policy")` + one, one + `@id("policy00")` + one, one + `@id("Policy0")` + one, one + `@id("policy-0")` + one, one + `@id("0")` + one, `@id("policy")` + one + `@id("1")` + one,
	} {
		if l, e, at := Parse(text); len(l) != 2 || e != api.OK || at != 0 {
			t.Errorf("Parse(%q): %s, %d, %d", text, clipped(l), e, at)
		}
		wantTold(t, text)
	}
	many := strings.Repeat(one, 1500)
	wantAnswer(t, many+`@id("policy1499")`+one, nil, api.ErrTwice, 0)
	wantAnswer(t, `@id("policy1500")`+many+one, nil, api.ErrTwice, 0)
	wantAnswer(t, many+`@id("policy1499")`+one+"a", nil, api.ErrForm, len(many)+17+len(one))
	if l, e, _ := Parse(many + `@id("policy1500")` + one); len(l) != 1501 || e != api.OK {
		t.Errorf("1501 policies: %s, %d", clipped(l), e)
	}
}

// TestP9_1Short holds all short rows of words, in each part of a policy, against the oracle.
func TestP9_1Short(t *testing.T) {
	wantRows(t, 2, "", `permit forbid @ id ( ) { } [ ] , ; : :: . == != < <= && ! + principal action resource context when unless in is has true if 1 "a" ?principal ?a`, all+";")
	wantRows(t, 4, "", `@ id ( "a" ) permit`, all+";")
	wantRows(t, 4, "permit ( principal", `== in is A :: "b" ?principal ?resource , true`, ", action, resource);")
	wantRows(t, 4, "permit ( principal, action", `== in is A :: "b" ?action [ ] ,`, ", resource);")
	wantRows(t, 6, "permit ( principal, action in", `[ ] , A::"a"`, ", resource);")
	wantRows(t, 4, "forbid ( principal, action, resource", `== in is A :: "b" ?principal ?resource ) ;`, ") unless { true };")
	wantRows(t, 5, "permit ( principal, action, resource", `) ; when { true }`, ";")
	wantRows(t, 5, "permit ( principal, action, resource == ?resource )", `when unless { } ?resource ?principal`, ";")
	wantRows(t, 6, "permit ( principal, action, resource )", `when { } ; true`, "forbid ( principal , action , resource ) ;")
}

// changed are rows of words that come of one by another word at a place, one left out, one more, one twice.
func changed(chance *rand.Rand, l []string) [][]string {
	others := strings.Fields(`permit forbid @ id ( ) { } [ ] , ; :: == in is when unless principal action resource A true "a" ?principal ?resource ?a`)
	place := chance.Intn(len(l))
	other := others[chance.Intn(len(others))]
	return [][]string{
		slices.Insert(slices.Clone(l), place, other), slices.Delete(slices.Clone(l), place, place+1),
		slices.Replace(slices.Clone(l), place, place+1, other), slices.Insert(slices.Clone(l), place, l[place]), l[:place],
	}
}

// TestP9_1Made holds texts that are made by the grammar, and what becomes of them if a word is changed, against the oracle, with any gaps between their words.
func TestP9_1Made(t *testing.T) {
	chance := rand.New(rand.NewSource(9))
	gaps := []string{" ", "\n", "\t", "\r\n", " // a\n", "//\n//;\n", "   "}
	counts := map[api.Errno]int{}
	for i := range 8000 {
		l := maker{chance}.make(1 + i%5)
		wantTold(t, strings.Join(l, gaps[i%len(gaps)]))
		_, e, _ := Parse(strings.Join(l, " "))
		counts[e]++
		for _, m := range changed(chance, l) {
			wantTold(t, strings.Join(m, gaps[chance.Intn(len(gaps))]))
		}
	}
	for _, e := range []api.Errno{api.OK, api.ErrDeep, api.ErrSlot, api.ErrTwice} {
		if counts[e] < 100 {
			t.Errorf("error %d: %d times, too few to tell much", e, counts[e])
		}
	}
}

// TestP9_1NewMemory spoils what was answered, and what there is room for behind its lists: the same call has the same answer again, and an answer ahead of it is left as it was.
func TestP9_1NewMemory(t *testing.T) {
	const text = `permit(principal is A in ?principal, action in [A::"a", B::"b", C::"c"], resource) when { [1, ?principal] } unless { {a: 1, b: {}} } when { if [] then {} else [1] };` +
		`@id("x") forbid(principal, action in [A::"a", B::"b", C::"c"], resource == ?resource) when { [1, ?resource] }; permit(principal, action in [], resource);`
	l, _, _ := Parse(text)
	m, _, _ := Parse(text)
	for _, p := range l { // what is laid behind a list changes no other one
		_ = append(p.Conds, api.Cond{})
		_ = append(p.Action.List, api.Uid{Type: "spoilt"})
	}
	if !some.EqualPolicies(l, m) {
		t.Error("two lists of an answer share memory")
	}
	some.SpoilPolicies(l)
	if some.EqualPolicies(l, m) {
		t.Error("nothing was spoilt")
	}
	wantAnswer(t, text, m, api.OK, 0)
	wantTold(t, text)
}

func TestP9_2Slots(t *testing.T) {
	for scopes, has := range slotted() {
		for _, text := range []string{"permit" + scopes + ";", "@id(\"a\") forbid" + scopes + " when { principal == resource };"} {
			l, e, _ := Parse(text)
			if e != api.OK {
				t.Fatalf("Parse(%q): %d", text, e)
			}
			if p, r := Slots(l[0]); p != has[0] || r != has[1] {
				t.Errorf("Slots of %q: %t, %t", text, p, r)
			}
		}
	}
	slot := api.Scope{Kind: api.Within, Slot: true}
	for _, c := range []struct {
		p                   api.Policy
		principal, resource bool
	}{
		{api.Policy{}, false, false},
		{api.Policy{Principal: slot}, true, false},
		{api.Policy{Resource: slot}, false, true},
		{api.Policy{Principal: slot, Resource: slot}, true, true},
		{api.Policy{Action: slot}, false, false}, // it isn't asked
		{with("a", true, api.Cond{E: api.Expr{Op: api.Slot, Name: "principal"}}, api.Cond{E: api.Expr{Op: api.Slot, Name: "resource"}}), false, false}, // nor are conditions
		{api.Policy{Principal: api.Scope{Kind: api.Equal, Uid: some.Uid("?principal/?principal")}}, false, false},
	} {
		if p, r := Slots(c.p); p != c.principal || r != c.resource {
			t.Errorf("Slots(%+v): %t, %t", c.p, p, r)
		}
	}
}

// TestP9_3 asks that each condition of all that is read has only slots that its policy's scopes have, and is nested no deeper than allowed.
func TestP9_3(t *testing.T) {
	chance := rand.New(rand.NewSource(3))
	slots := 0
	for i := range 4000 {
		text := strings.Join(maker{chance}.make(1+i%2), " ")
		l, e, at := Parse(text)
		if e != api.OK && l != nil || e == api.OK && at != 0 {
			t.Errorf("Parse(%q): %s, %d, %d", text, clipped(l), e, at)
		}
		for _, p := range l {
			principal, resource := Slots(p)
			for _, c := range p.Conds {
				names, depth := slotsOf(c.E)
				if slices.Contains(names, "principal") && !principal || slices.Contains(names, "resource") && !resource || depth > 50 {
					t.Errorf("Parse(%q): %+v", text, p)
				}
				slots += len(names)
			}
		}
	}
	if slots < 100 {
		t.Errorf("%d slots: too few to tell much", slots)
	}
}
