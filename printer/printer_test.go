package printer

import (
	"fmt"
	"math/rand"
	"slices"
	"strings"
	"testing"

	"chamberlain/api"
	"chamberlain/expr"
	"chamberlain/policy"
	"chamberlain/some"
)

const least = -1 << 63

var (
	one       = some.Lit(some.Num(1))
	two       = some.Lit(some.Num(2))
	yes       = some.Lit(some.Truth(true))
	principal = some.Named(api.Var, "principal")
	wrong     = some.Lit(some.Num(-1)) // may not be told
)

// clipped tells the beginning of something.
func clipped(x any) string { return fmt.Sprintf("%.400s", fmt.Sprintf("%+v", x)) }

// wantExpr wants a text of an expression, whatever the oracle says.
func wantExpr(t *testing.T, e api.Expr, text string) {
	t.Helper()
	if s, err := Expr(e); s != text || err != api.OK {
		t.Errorf("Expr(%s): %.300q, %d; not %.300q", clipped(e), s, err, text)
	}
	wantTold(t, e)
}

// wantError wants an error of an expression, and of a policy with it as a condition.
func wantError(t *testing.T, e api.Expr, err api.Errno) {
	t.Helper()
	if s, f := Expr(e); s != "" || f != err {
		t.Errorf("Expr(%s): %.300q, %d; not %d", clipped(e), s, f, err)
	}
	wantPolicyError(t, with(api.Cond{When: true, E: yes}, api.Cond{E: e}), err)
}

// wantTold holds what Expr answers against the oracle, and that the expression is left as it was.
func wantTold(t *testing.T, e api.Expr) {
	t.Helper()
	c := some.CloneExpr(e)
	text, err := told(e)
	if s, f := Expr(e); s != text || f != err {
		t.Errorf("Expr(%s): %.300q, %d; not %.300q, %d", clipped(e), s, f, text, err)
	}
	if !some.EqualExpr(e, c) {
		t.Errorf("Expr(%s) changed it", clipped(c))
	}
}

// wantReadBack wants an expression to be told, what is told to be read as it was (unless that is too deep), and to be told as the same text; tells whether it was read.
func wantReadBack(t *testing.T, e api.Expr) bool {
	t.Helper()
	text, err := Expr(e)
	if err != api.OK {
		t.Errorf("Expr(%s): %d", clipped(e), err)
	}
	x, err, at := expr.Parse(text)
	if err == api.ErrDeep {
		return false
	}
	if err != api.OK || !some.EqualExpr(x, clean(e)) {
		t.Errorf("Parse(%.300q): %s, %d, %d; not %s", text, clipped(x), err, at, clipped(clean(e)))
	}
	if again, err := Expr(x); again != text || err != api.OK {
		t.Errorf("Expr of what %.300q is: %.300q, %d", text, again, err)
	}
	return true
}

// with is a policy that permits all, and has some conditions.
func with(conds ...api.Cond) api.Policy { return api.Policy{Permit: true, Conds: conds} }

// wantPolicies wants a text of policies, whatever the oracle says.
func wantPolicies(t *testing.T, text string, l ...api.Policy) {
	t.Helper()
	if s, e := Policies(l); s != text || e != api.OK {
		t.Errorf("Policies(%s): %.300q, %d; not %.300q", clipped(l), s, e, text)
	}
	wantToldPolicies(t, l)
}

// wantPolicyError wants an error of a policy by itself, and among policies that may be told, and ahead of some that may not.
func wantPolicyError(t *testing.T, p api.Policy, err api.Errno) {
	t.Helper()
	good, deep, bad := with(api.Cond{E: yes}), with(api.Cond{E: nots(51, one)}), api.Policy{Action: api.Scope{Kind: -1}}
	for _, l := range [][]api.Policy{{p}, {good, p}, {good, good, p, good}, {p, deep}, {p, bad}, {p, bad, deep}} {
		if s, e := Policies(l); s != "" || e != err {
			t.Errorf("Policies(%s): %.300q, %d; not %d", clipped(l), s, e, err)
		}
	}
}

// wantToldPolicies holds what Policies answers against the oracle, and that the policies are left as they were.
func wantToldPolicies(t *testing.T, l []api.Policy) {
	t.Helper()
	was := fmt.Sprint(l)
	text, err := toldPolicies(l)
	if s, f := Policies(l); s != text || f != err {
		t.Errorf("Policies(%s): %.500q, %d; not %.500q, %d", clipped(l), s, f, text, err)
	}
	if fmt.Sprint(l) != was {
		t.Errorf("Policies(%.400s) changed them", was)
	}
}

// nots is so many levels deep: Nots around the innermost one.
func nots(levels int, innermost api.Expr) api.Expr {
	e := innermost
	for range levels - 1 {
		e = some.Op(api.Not, e)
	}
	return e
}

// leaf is an expression of an Op with no Kids, and all else that may be told.
func leaf(op int) api.Expr {
	e := api.Expr{Op: op}
	switch op {
	case api.Lit:
		e.V = some.Num(1)
	case api.Is, api.Has, api.Get:
		e.Name = "a"
	case api.Var, api.Slot:
		e.Name = "resource"
	}
	return e
}

// node is an expression of an Op with so many Kids, all alike, and all else that may be told.
func node(op, count int, kid api.Expr) api.Expr {
	e := leaf(op)
	for range count {
		e.Kids = append(e.Kids, kid)
		if op == api.MakeRecord {
			e.Names = append(e.Names, "a")
		}
	}
	return e
}

// kidsOf is how many Kids an Op may have, at least one if it may have any number.
func kidsOf(op int) int {
	if count := theRows[op].kids; count != several {
		return count
	}
	return 3
}

// places are each Op that has Kids, and each of their places.
func places() [][2]int {
	var l [][2]int
	for op := range theRows {
		for place := range kidsOf(op) {
			l = append(l, [2]int{op, place})
		}
	}
	return l
}

// around is an expression of an Op with a Kid at a place, and 1 at the others.
func around(at [2]int, kid api.Expr) api.Expr {
	e := node(at[0], kidsOf(at[0]), one)
	e.Kids[at[1]] = kid
	return e
}

// nodes are expressions of each Op that has Kids, with a Kid at each of its places.
func nodes(kid api.Expr) []api.Expr {
	var l []api.Expr
	for _, at := range places() {
		l = append(l, around(at, kid))
	}
	return l
}

// tower is so many levels deep: an Op within itself, at a place.
func tower(at [2]int, levels int) api.Expr {
	e := one
	for range levels - 1 {
		e = around(at, e)
	}
	return e
}

func TestP10_1Texts(t *testing.T) {
	not, neg := some.Op(api.Not, yes), some.Op(api.Neg, one)
	wantExpr(t, some.Op(api.Not, some.Op(api.Eq, one, two)), "!(1 == 2)")     // the document's example
	wantExpr(t, some.Named(api.Get, "x", some.Op(api.Not, yes)), "(!true).x") // the document's example
	wantExpr(t, some.Op(api.Not, some.Named(api.Get, "x", yes)), "!true.x")   // another one, read so
	wantExpr(t, some.Named(api.Get, "x y", neg), `(-1)["x y"]`)
	for _, c := range []struct {
		op       int
		operator string
	}{{api.And, "&&"}, {api.Or, "||"}, {api.Eq, "=="}, {api.Less, "<"}, {api.LessEq, "<="}, {api.Add, "+"}, {api.Sub, "-"}, {api.Mul, "*"}, {api.In, "in"}} {
		wantExpr(t, some.Op(c.op, one, two), "(1 "+c.operator+" 2)")
		wantExpr(t, some.Op(c.op, two, some.Op(c.op, one, principal)), "(2 "+c.operator+" (1 "+c.operator+" principal))")
		wantExpr(t, some.Op(c.op, some.Op(c.op, one, not), neg), "((1 "+c.operator+" !true) "+c.operator+" -1)")
	}
	wantExpr(t, not, "!true")
	wantExpr(t, neg, "-1")
	wantExpr(t, some.Op(api.Not, some.Op(api.Not, neg)), "!!-1")
	wantExpr(t, some.Op(api.Neg, some.Op(api.Neg, some.Op(api.Neg, one))), "---1")
	wantExpr(t, some.Op(api.If, yes, one, two), "(if true then 1 else 2)")
	wantExpr(t, some.Op(api.If, some.Op(api.If, one, yes, two), some.Op(api.If, yes, two, one), some.Op(api.If, two, one, yes)), "(if (if 1 then true else 2) then (if true then 2 else 1) else (if 2 then 1 else true))")
	wantExpr(t, some.Op(api.If, not, neg, not), "(if !true then -1 else !true)")
	for _, name := range []string{"A", "A::B::c_1", "principal", "A::if::true", "iff", "_", "permit::a", strings.Repeat("A::", 40000) + "A"} {
		wantExpr(t, some.Named(api.Is, name, principal), "(principal is "+name+")")
	}
	for _, name := range []string{"a", "if", "then", "else", "true", "false", "in", "has", "is", "principal", "_1", "contains", strings.Repeat("a", 70000)} {
		wantExpr(t, some.Named(api.Has, name, not), "(!true has "+name+")")
		wantExpr(t, some.Named(api.Get, name, principal), "principal."+name)
	}
	for name, quoted := range map[string]string{"": `""`, "a b": `"a b"`, "1": `"1"`, "1a": `"1a"`, "a::b": `"a::b"`, "\"\\": `"\"\\"`, "a\n": `"a\x0a"`, "é": `"\xc3\xa9"`, "a-b": `"a-b"`, " a": `" a"`} {
		wantExpr(t, some.Named(api.Get, name, principal), "principal["+quoted+"]")
		wantExpr(t, api.Expr{Op: api.MakeRecord, Names: []string{name}, Kids: []api.Expr{one}}, "{"+quoted+": 1}")
	}
	wantExpr(t, some.Op(api.Contains, principal, one), "principal.contains(1)")
	wantExpr(t, some.Op(api.ContainsAll, one, some.Op(api.ContainsAny, two, yes)), "1.containsAll(2.containsAny(true))")
	wantExpr(t, some.Op(api.ContainsAny, some.Op(api.Contains, two, yes), not), "2.contains(true).containsAny(!true)")
	wantExpr(t, some.Op(api.MakeSet), "[]")
	wantExpr(t, some.Op(api.MakeSet, one), "[1]")
	wantExpr(t, some.Op(api.MakeSet, two, not, two, some.Op(api.MakeSet, neg)), "[2, !true, 2, [-1]]")
	wantExpr(t, some.Op(api.MakeRecord), "{}")
	wantExpr(t, api.Expr{Op: api.MakeRecord, Names: []string{"b", "a", "b", ""}, Kids: []api.Expr{two, not, some.Op(api.MakeRecord), one}}, `{"b": 2, "a": !true, "b": {}, "": 1}`)
}

func TestP10_1Leaves(t *testing.T) {
	for _, c := range []struct {
		v    api.Value
		text string
	}{
		{some.Truth(true), "true"}, {some.Truth(false), "false"},
		{some.Num(0), "0"}, {some.Num(10), "10"}, {some.Num(9223372036854775807), "9223372036854775807"},
		{some.Text(""), `""`}, {some.Text("true"), `"true"`}, {some.Text("a\"\\\n\x00\xff~ "), `"a\"\\\x0a\x00\xff~ "`},
		{some.Ref("A", "b"), `A::"b"`}, {some.Ref("A::B", ""), `A::B::""`}, {some.Ref("principal", "a\nb"), `principal::"a\x0ab"`}, {some.Ref("A::true::if", "\""), `A::true::if::"\""`}, {some.Ref("truer", "::"), `truer::"::"`},
	} {
		wantExpr(t, some.Lit(c.v), c.text)
		wantExpr(t, some.Named(api.Get, "a", some.Lit(c.v)), c.text+".a")
		wantExpr(t, some.Op(api.Neg, some.Lit(c.v)), "-"+c.text)
	}
	for _, name := range []string{"principal", "action", "resource", "context"} {
		wantExpr(t, some.Named(api.Var, name), name)
	}
	wantExpr(t, some.Named(api.Slot, "principal"), "?principal")
	wantExpr(t, some.Named(api.Slot, "resource"), "?resource")
}

// TestP10_1Receivers has each Op where an attribute or a method is behind it: of Not and Neg alone it stands in parentheses.
func TestP10_1Receivers(t *testing.T) {
	for op := range theRows {
		of := node(op, kidsOf(op), one)
		text, _ := told(of)
		within := text
		if op == api.Not || op == api.Neg {
			within = "(" + text + ")"
		}
		wantExpr(t, some.Named(api.Get, "a", of), within+".a")
		wantExpr(t, some.Named(api.Get, "a b", of), within+`["a b"]`)
		for method, name := range map[int]string{api.Contains: ".contains(", api.ContainsAll: ".containsAll(", api.ContainsAny: ".containsAny("} {
			wantExpr(t, some.Op(method, of, of), within+name+text+")") // the second one stands in parentheses as it is
		}
		wantExpr(t, some.Op(api.Not, of), "!"+text)
		wantExpr(t, some.Op(api.MakeSet, of), "["+text+"]")
	}
}

// TestP10_1Within has each Op within each one, at each of its places, and each one within these.
func TestP10_1Within(t *testing.T) {
	for op := range theRows {
		for _, e := range nodes(node(op, kidsOf(op), two)) {
			wantTold(t, e)
			wantReadBack(t, e)
			for _, outer := range nodes(e) {
				wantTold(t, outer)
				wantReadBack(t, outer)
			}
		}
	}
}

// TestP10_1Counts has each Op with any number of Kids, and numbers that are no Op's.
func TestP10_1Counts(t *testing.T) {
	for op := -3; op < 40; op++ {
		for count := range 6 {
			e := node(op, count, one)
			if r, is := theRows[op]; is && (r.kids == count || r.kids == several) {
				wantTold(t, e)
				wantReadBack(t, e)
				continue
			}
			wantError(t, e, api.ErrArg)
			for _, outer := range nodes(e) {
				wantError(t, outer, api.ErrArg)
			}
		}
	}
	for _, op := range []int{0, least, 1<<63 - 1, 256 + api.Lit, 1<<32 + api.Lit} {
		wantError(t, api.Expr{Op: op, V: some.Num(1)}, api.ErrArg)
	}
	for names := range 5 {
		for kids := range 5 {
			e := node(api.MakeRecord, kids, one)
			e.Names = slices.Repeat([]string{"a"}, names)
			if names != kids {
				wantError(t, e, api.ErrArg)
			}
			wantTold(t, e)
		}
	}
}

// TestP10_1Wrong has Names and values that may not be, by themselves and at each place of each Op.
func TestP10_1Wrong(t *testing.T) {
	l := []api.Expr{wrong, some.Lit(some.Num(least)), some.Lit(api.Value{}), some.Lit(some.Set()), some.Lit(some.Set(some.Num(1))), some.Lit(some.Record("")), some.Lit(api.Value{Kind: 7}), some.Lit(api.Value{Kind: -1})}
	noPaths := []string{"", "1", "a b", "A:", "A::", "::A", "A::::B", "A:B", "A::1", "A. B", "A ", " A", "é", "A\n", "?A", "if", "then", "else", "true", "false", "in", "has", "is", "if::A", "true::A::B", "in::in"}
	for _, name := range noPaths {
		l = append(l, some.Named(api.Is, name, one), some.Lit(some.Ref(name, "a")))
	}
	for _, name := range []string{"", "1", "a b", "A::B", "a.b", "a-b", "é", "a\n", " a", "a ", `"a"`} {
		l = append(l, some.Named(api.Has, name, one))
	}
	for _, name := range []string{"", "a", "Principal", "principals", "principal ", "true", "?principal", "principal.a", "A"} {
		l = append(l, some.Named(api.Var, name), some.Named(api.Slot, name))
	}
	l = append(l, some.Named(api.Slot, "action"), some.Named(api.Slot, "context"))
	for _, e := range l {
		wantError(t, e, api.ErrArg)
		for _, outer := range nodes(e) {
			wantError(t, outer, api.ErrArg)
		}
		wantError(t, nots(49, e), api.ErrArg)
	}
	for _, name := range noPaths {
		wantTold(t, some.Named(api.Get, name, one)) // an attribute may be named as one likes
	}
}

// TestP10_1Unused has fields that an expression's Op doesn't have: whatever they are, nothing is told of them.
func TestP10_1Unused(t *testing.T) {
	for op := range theRows {
		e := node(op, kidsOf(op), one)
		text, _ := told(e)
		if op != api.Lit {
			e.V = api.Value{Kind: api.Int, Int: -1}
		}
		if e.Name == "" {
			e.Name = "no name"
		}
		if op != api.MakeRecord {
			e.Names = []string{"a", "b"}
		}
		wantExpr(t, e, text)
		wantReadBack(t, e)
	}
	for _, v := range []api.Value{some.Truth(true), some.Num(1), some.Text("a"), some.Ref("A", "a")} {
		text, _ := told(some.Lit(v))
		if v.Kind != api.Int {
			v.Int = -1
		}
		if v.Kind != api.Ref {
			v.Uid.Type = "if"
		}
		v.Items, v.Names = []api.Value{some.Tower(60, some.Num(-1)), {}}, []string{"a"}
		wantExpr(t, some.Lit(v), text)
		wantReadBack(t, some.Lit(v))
	}
}

// TestP10_1Deep has what is nested at the limit and above it, at each place of each Op.
func TestP10_1Deep(t *testing.T) {
	wantExpr(t, nots(50, yes), strings.Repeat("!", 49)+"true")
	wantError(t, nots(51, yes), api.ErrDeep)
	for _, innermost := range []api.Expr{one, wrong} {
		for _, e := range nodes(nots(49, innermost)) {
			wantTold(t, e)
		}
		for _, levels := range []int{50, 51, 100} {
			for _, e := range nodes(nots(levels, innermost)) {
				wantError(t, e, api.ErrDeep)
			}
		}
	}
	for _, at := range places() {
		wantTold(t, tower(at, 50))
		wantReadBack(t, tower(at, 50))
		wantError(t, tower(at, 51), api.ErrDeep)
	}
	// ErrDeep is ahead of ErrArg, wherever both are.
	deep := nots(51, one)
	wantError(t, some.Op(api.And, wrong, deep), api.ErrDeep)
	wantError(t, some.Op(api.MakeSet, wrong, wrong, deep, wrong), api.ErrDeep)
	wantError(t, api.Expr{Op: 99, Kids: []api.Expr{nots(50, one)}}, api.ErrDeep)
	wantError(t, some.Op(api.Lit, nots(50, one)), api.ErrDeep) // Kids that an Op doesn't have count, too
	wantError(t, some.Op(api.Lit, nots(49, one)), api.ErrArg)
	wantError(t, some.Op(api.MakeRecord, nots(50, one)), api.ErrDeep)
	wantError(t, nots(1<<16, one), api.ErrDeep)
	wantError(t, nots(1<<16, wrong), api.ErrDeep)
	wantExpr(t, some.Lit(some.Text(strings.Repeat("a", 1<<20))), `"`+strings.Repeat("a", 1<<20)+`"`) // how long a text is isn't asked
	wide := some.Op(api.MakeSet, slices.Repeat([]api.Expr{one}, 100000)...)
	wantExpr(t, wide, "["+strings.Repeat("1, ", 99999)+"1]")
	wide.Kids[99999] = wrong
	wantError(t, wide, api.ErrArg)
	wide.Kids[99999] = nots(50, one)
	wantError(t, wide, api.ErrDeep)
}

// TestP10_1Itself has expressions within themselves, which are nested without an end, and so aren't shown by the test.
func TestP10_1Itself(t *testing.T) {
	for op := -1; op < 26; op++ {
		for count := 1; count < 4; count++ {
			for place := range count {
				e := node(op, count, wrong)
				e.Kids[place] = e
				if s, err := Expr(e); s != "" || err != api.ErrDeep {
					t.Errorf("Op %d, %d Kids, at %d: %.300q, %d", op, count, place, s, err)
				}
				if s, err := Policies([]api.Policy{with(api.Cond{E: e})}); s != "" || err != api.ErrDeep {
					t.Errorf("a policy of Op %d, %d Kids, at %d: %.300q, %d", op, count, place, s, err)
				}
			}
		}
	}
}

// TestP10_1Made holds expressions made by chance, and what becomes of them if something is changed, against the oracle.
func TestP10_1Made(t *testing.T) {
	m := maker{rand.New(rand.NewSource(10))}
	counts := map[api.Errno]int{}
	for i := range 20000 {
		e := m.expr(1+i%6, i%2 == 0)
		wantTold(t, e)
		s := m.spoilt(e)
		wantTold(t, s)
		_, err := Expr(s)
		counts[err]++
	}
	if counts[api.OK] < 1000 || counts[api.ErrArg] < 1000 {
		t.Errorf("%v: too few to tell much", counts)
	}
}

func TestP10_2Policies(t *testing.T) {
	wantPolicies(t, "")
	wantPolicies(t, "@id(\"\") forbid(principal, action, resource);\n", api.Policy{})
	wantPolicies(t, "@id(\"policy0\") permit(principal, action, resource);\n", api.Policy{Id: "policy0", Permit: true})
	wantPolicies(t, `@id("a") permit(principal, action, resource);`+"\n"+`@id("a") forbid(principal, action, resource);`+"\n"+`@id("\"\\\x0a\xff)") permit(principal, action, resource);`+"\n",
		api.Policy{Id: "a", Permit: true}, api.Policy{Id: "a"}, api.Policy{Id: "\"\\\n\xff)", Permit: true}) // two of one Id, too
	wantPolicies(t, `@id("") permit(principal, action, resource) when { true };`+"\n", with(api.Cond{When: true, E: yes}))
	wantPolicies(t, `@id("") permit(principal, action, resource) unless { (1 == 2) };`+"\n", with(api.Cond{E: some.Op(api.Eq, one, two)}))
	wantPolicies(t, `@id("") permit(principal, action, resource) unless { {} } when { [] } when { (if true then 1 else 2) } unless { (!true).a };`+"\n",
		with(api.Cond{E: some.Op(api.MakeRecord)}, api.Cond{When: true, E: some.Op(api.MakeSet)}, api.Cond{When: true, E: some.Op(api.If, yes, one, two)}, api.Cond{E: some.Named(api.Get, "a", some.Op(api.Not, yes))}))
	wantPolicies(t, `@id("x") forbid(principal is A::B in ?principal, action in [A::"a", B::"b\x0a"], resource == A::"r") when { (?principal == ?resource) };`+"\n",
		api.Policy{
			Id:        "x",
			Principal: api.Scope{Kind: api.Both, Type: "A::B", Slot: true},
			Action:    api.Scope{Kind: api.OneOf, List: []api.Uid{some.Uid("A/a"), some.Uid("B/b\n")}},
			Resource:  api.Scope{Kind: api.Equal, Uid: some.Uid("A/r")},
			Conds:     []api.Cond{{When: true, E: some.Op(api.Eq, some.Named(api.Slot, "principal"), some.Named(api.Slot, "resource"))}},
		})
}

// scoped are scopes of a principal or a resource that may be told, and what is told of them.
func scoped() map[string]api.Scope {
	return map[string]api.Scope{
		"":                          {Kind: api.Any},
		` == A::"a"`:                {Kind: api.Equal, Uid: some.Uid("A/a")},
		` == A::B::"\"\\\x0a"`:      {Kind: api.Equal, Uid: some.Uid("A::B/\"\\\n")},
		` in A::"a"`:                {Kind: api.Within, Uid: some.Uid("A/a")},
		` in principal::""`:         {Kind: api.Within, Uid: some.Uid("principal/")},
		" is A":                     {Kind: api.OfType, Type: "A"},
		" is A::if::B":              {Kind: api.OfType, Type: "A::if::B"},
		` is A in A::"a"`:           {Kind: api.Both, Type: "A", Uid: some.Uid("A/a")},
		` is A::B in C::D::"a, b)"`: {Kind: api.Both, Type: "A::B", Uid: some.Uid("C::D/a, b)")},
	}
}

// slotted are scopes with a Slot, and what is told of them, up to its name.
func slotted() map[string]api.Scope {
	return map[string]api.Scope{
		" == ?":         {Kind: api.Equal, Slot: true},
		" in ?":         {Kind: api.Within, Slot: true},
		" is A in ?":    {Kind: api.Both, Type: "A", Slot: true},
		" is A::B in ?": {Kind: api.Both, Type: "A::B", Slot: true},
	}
}

// ofActions are scopes of actions that may be told, and what is told of them.
func ofActions() map[string]api.Scope {
	return map[string]api.Scope{
		"":                                       {Kind: api.Any},
		` == Action::"a"`:                        {Kind: api.Equal, Uid: some.Uid("Action/a")},
		` in A::B::"a"`:                          {Kind: api.Within, Uid: some.Uid("A::B/a")},
		" in []":                                 {Kind: api.OneOf},
		` in [A::"a"]`:                           {Kind: api.OneOf, List: some.Uids("A/a")},
		` in [A::"b", A::"a", A::"b", B::C::""]`: {Kind: api.OneOf, List: some.Uids("A/b A/a A/b B::C/")},
	}
}

func TestP10_2Scopes(t *testing.T) {
	for action, a := range ofActions() {
		wantPolicies(t, `@id("") permit(principal, action`+action+", resource);\n", api.Policy{Permit: true, Action: a})
		for scope, s := range scoped() {
			wantPolicies(t, `@id("") permit(principal`+scope+", action"+action+", resource);\n", api.Policy{Permit: true, Principal: s, Action: a})
			wantPolicies(t, `@id("") forbid(principal, action`+action+", resource"+scope+") unless { true };\n", api.Policy{Action: a, Resource: s, Conds: []api.Cond{{E: yes}}})
		}
		for scope, s := range slotted() {
			for _, uid := range []api.Uid{{}, some.Uid("A/a"), some.Uid("if/a"), some.Uid("no path/a")} { // it isn't told
				s.Uid = uid
				wantPolicies(t, `@id("") permit(principal`+scope+"principal, action"+action+", resource);\n", api.Policy{Permit: true, Principal: s, Action: a})
				wantPolicies(t, `@id("") forbid(principal, action`+action+", resource"+scope+"resource);\n", api.Policy{Action: a, Resource: s})
				wantPolicies(t, `@id("") forbid(principal`+scope+"principal, action"+action+", resource"+scope+"resource);\n", api.Policy{Principal: s, Action: a, Resource: s})
			}
		}
	}
}

// TestP10_2Unused has fields that a scope's Kind doesn't have: whatever they are, nothing is told of them.
func TestP10_2Unused(t *testing.T) {
	dirty := func(s api.Scope) api.Scope {
		if s.Type == "" {
			s.Type = "if"
		}
		if s.Kind != api.Equal && s.Kind != api.Within && s.Kind != api.Both {
			s.Uid = some.Uid("no path/a")
		}
		if s.Kind != api.OneOf {
			s.List = some.Uids("1/a A/a")
		}
		return s
	}
	for scope, s := range scoped() {
		s = dirty(s)
		wantPolicies(t, `@id("") forbid(principal`+scope+", action, resource"+scope+");\n", api.Policy{Principal: s, Resource: s})
	}
	for _, s := range []api.Scope{{Kind: api.Any, Slot: true}, {Kind: api.OfType, Type: "A", Slot: true}} { // no place is told
		text := map[int]string{api.Any: "", api.OfType: " is A"}[s.Kind]
		wantPolicies(t, `@id("") forbid(principal`+text+", action, resource"+text+");\n", api.Policy{Principal: dirty(s), Resource: dirty(s)})
	}
	for scope, s := range ofActions() {
		wantPolicies(t, `@id("") forbid(principal, action`+scope+", resource);\n", api.Policy{Action: dirty(s)})
	}
	slot := some.Named(api.Slot, "principal") // whether a scope has it isn't asked
	wantPolicies(t, `@id("") forbid(principal, action, resource) unless { ?principal };`+"\n", api.Policy{Conds: []api.Cond{{E: slot}}})
}

func TestP10_2Wrong(t *testing.T) {
	for kind := -2; kind < 12; kind++ {
		for _, slot := range []bool{false, true} {
			s := api.Scope{Kind: kind, Type: "A", Uid: some.Uid("A/a"), List: some.Uids("A/a"), Slot: slot}
			if kind < api.Any || kind > api.Both {
				wantPolicyError(t, api.Policy{Principal: s}, api.ErrArg)
				wantPolicyError(t, api.Policy{Resource: s}, api.ErrArg)
			}
			if slot || kind < api.Any || kind == api.OfType || kind == api.Both || kind > api.OneOf {
				wantPolicyError(t, api.Policy{Action: s}, api.ErrArg)
			}
			for _, p := range []api.Policy{{Principal: s}, {Resource: s}, {Action: s}} {
				wantToldPolicies(t, []api.Policy{p})
			}
		}
	}
	wantPolicyError(t, api.Policy{Action: api.Scope{Slot: true}}, api.ErrArg)
	for _, path := range []string{"", "1", "a b", "A::", "::A", "A::::B", "A:B", "A ", "é", "?principal", "if", "then", "else", "true", "false", "in", "has", "is", "if::A", "in::A::B"} {
		uid := api.Uid{Type: path, Id: "a"}
		for _, s := range []api.Scope{{Kind: api.Equal, Uid: uid}, {Kind: api.Within, Uid: uid}, {Kind: api.OfType, Type: path}, {Kind: api.Both, Type: path, Uid: some.Uid("A/a")}, {Kind: api.Both, Type: "A", Uid: uid}, {Kind: api.Both, Type: path, Uid: uid}, {Kind: api.Both, Type: path, Slot: true}} {
			wantPolicyError(t, api.Policy{Principal: s}, api.ErrArg)
			wantPolicyError(t, api.Policy{Resource: s}, api.ErrArg)
			wantPolicyError(t, api.Policy{Action: s}, api.ErrArg)
		}
		for place := range 4 {
			list := some.Uids("A/a B/b C/c D/d")
			list[place] = uid
			wantPolicyError(t, api.Policy{Action: api.Scope{Kind: api.OneOf, List: list}}, api.ErrArg)
		}
	}
}

// TestP10_2First has several errors: a policy's scopes are asked ahead of its conditions, these one by one, and all of a policy ahead of the next one.
func TestP10_2First(t *testing.T) {
	deep := nots(51, one)
	no := api.Scope{Kind: api.OneOf, Slot: true, List: []api.Uid{{}}}
	badConds := func(l ...api.Expr) api.Policy {
		p := with()
		for i, e := range l {
			p.Conds = append(p.Conds, api.Cond{When: i%2 == 0, E: e})
		}
		return p
	}
	for _, p := range []api.Policy{{Principal: no}, {Action: no}, {Resource: no}} {
		p.Conds = badConds(deep, wrong).Conds
		wantPolicyError(t, p, api.ErrArg)
	}
	wantPolicyError(t, badConds(deep, wrong), api.ErrDeep)
	wantPolicyError(t, badConds(wrong, deep), api.ErrArg)
	wantPolicyError(t, badConds(yes, yes, deep, wrong), api.ErrDeep)
	wantPolicyError(t, badConds(yes, some.Op(api.And, wrong, deep), wrong), api.ErrDeep)
	wantPolicyError(t, badConds(yes, yes, yes, yes, yes, wrong), api.ErrArg)
	wantPolicyError(t, badConds(yes, yes, yes, yes, yes, deep), api.ErrDeep)
	wantPolicyError(t, badConds(api.Expr{}), api.ErrArg)
	for _, first := range []api.Policy{badConds(deep), badConds(wrong), {Principal: no}, {Action: no}, {Resource: no}} {
		for _, second := range []api.Policy{badConds(deep), badConds(wrong), {Principal: no}, {}} {
			l := []api.Policy{with(), first, second}
			_, err := toldPolicies(l[:2])
			if s, e := Policies(l); s != "" || e != err || err == api.OK {
				t.Errorf("Policies(%s): %.300q, %d; not %d", clipped(l), s, e, err)
			}
		}
	}
}

// TestP10_2Made holds policies made by chance, and what becomes of them if something is changed, against the oracle.
func TestP10_2Made(t *testing.T) {
	m := maker{rand.New(rand.NewSource(102))}
	counts := map[api.Errno]int{}
	for i := range 8000 {
		l := m.policies(1+i%4, i%2 == 0)
		wantToldPolicies(t, l)
		c := m.spoiltPolicies(l)
		wantToldPolicies(t, c)
		_, err := Policies(c)
		counts[err]++
	}
	if counts[api.OK] < 500 || counts[api.ErrArg] < 500 {
		t.Errorf("%v: too few to tell much", counts)
	}
	many := slices.Repeat([]api.Policy{{Id: "a"}}, 3000)
	wantPolicies(t, strings.Repeat("@id(\"a\") forbid(principal, action, resource);\n", 3000), many...) // how long a text is isn't asked
}

// TestP10_3Expr asks that what is told of an expression is read as it was, and told again as the same text.
func TestP10_3Expr(t *testing.T) {
	m := maker{rand.New(rand.NewSource(103))}
	read := 0
	for i := range 20000 {
		if wantReadBack(t, m.expr(1+i%7, i%2 == 0)) {
			read++
		}
	}
	if read < 19000 {
		t.Errorf("%d were read: too few to tell much", read)
	}
	for _, text := range []string{"1 + 2 * 3 == 7", "a::b::\"c\" in [a::\"b\"] || !(1 >= 2) && context has in", "principal.a[\"b\"].c[\"d e\"].contains(-1)", "(if 1 then 2 else 3).a", "{a: 1, \"b c\": {}, a: []}.a != ?resource", "- - !1 - -2", "!(principal.contains(1))", "!principal.contains(1)", "(!principal).contains(1)", "principal is A :: B // :: C"} {
		x, err, at := expr.Parse(text)
		if err != api.OK {
			t.Fatalf("Parse(%q): %d, %d", text, err, at)
		}
		if !wantReadBack(t, x) {
			t.Errorf("what is told of %q is too deep to be read", text)
		}
	}
}

// TestP10_3Deep has expressions that are told, and up to some number of levels read: each pair of parentheses begins an expr and a unary, an if one more expr.
func TestP10_3Deep(t *testing.T) {
	for _, c := range []struct{ op, most int }{{api.Add, 25}, {api.MakeSet, 25}, {api.If, 17}, {api.Not, 49}, {api.Get, 50}, {api.Contains, 50}, {api.Has, 25}} {
		for levels := 1; levels <= 50; levels++ {
			if read := wantReadBack(t, tower([2]int{c.op, 0}, levels)); read != (levels <= c.most) {
				t.Errorf("Op %d, %d levels: read %t", c.op, levels, read)
			}
		}
	}
}

// TestP10_3Policies asks that what is told of policies is read as it was, and told again as the same text.
func TestP10_3Policies(t *testing.T) {
	m := maker{rand.New(rand.NewSource(104))}
	read := 0
	for i := range 8000 {
		l := m.policies(i%5, i%2 == 0)
		text, err := Policies(l)
		if err != api.OK {
			t.Fatalf("Policies(%v): %d", l, err)
		}
		p, err, at := policy.Parse(text)
		if err == api.ErrSlot && slots(l) { // that isn't asked of what is told
			continue
		}
		read++
		if err != api.OK || !some.EqualPolicies(p, cleanAll(l)) {
			t.Fatalf("Parse(%q): %v, %d, %d; not %v", text, p, err, at, cleanAll(l))
		}
		if again, err := Policies(p); again != text || err != api.OK {
			t.Errorf("Policies of what %q is: %q, %d", text, again, err)
		}
	}
	if read < 3000 {
		t.Errorf("%d were read: too few to tell much", read)
	}
}

// slots tells whether a policy's conditions have a slot that its scopes haven't.
func slots(l []api.Policy) bool {
	return slices.ContainsFunc(cleanAll(l), func(p api.Policy) bool {
		return slices.ContainsFunc(p.Conds, func(c api.Cond) bool {
			_, all := opened(c.E)
			return slices.ContainsFunc(all, func(e api.Expr) bool {
				return e.Op == api.Slot && !(e.Name == "principal" && p.Principal.Slot || e.Name == "resource" && p.Resource.Slot)
			})
		})
	})
}
