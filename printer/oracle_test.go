package printer

import (
	"math/rand"
	"regexp"
	"slices"
	"strconv"
	"strings"

	"chamberlain/api"
	"chamberlain/some"
	"chamberlain/texts"
)

// row is what the document says of an Op: how many Kids it has, and its text, where what stands in <> is put in.
type row struct {
	kids int
	text string
}

const several = -1 // any number of Kids

// theRows are those of the document's table, made once.
var theRows = map[int]row{
	api.Lit: {0, "<V>"}, api.Var: {0, "<Name>"}, api.Slot: {0, "?<Name>"},
	api.And: {2, "(<A> && <B>)"}, api.Or: {2, "(<A> || <B>)"}, api.Eq: {2, "(<A> == <B>)"}, api.Less: {2, "(<A> < <B>)"}, api.LessEq: {2, "(<A> <= <B>)"},
	api.Add: {2, "(<A> + <B>)"}, api.Sub: {2, "(<A> - <B>)"}, api.Mul: {2, "(<A> * <B>)"}, api.In: {2, "(<A> in <B>)"},
	api.Not: {1, "!<A>"}, api.Neg: {1, "-<A>"},
	api.If: {3, "(if <A> then <B> else <C>)"},
	api.Is: {1, "(<A> is <Name>)"}, api.Has: {1, "(<A> has <Name>)"},
	api.Get:      {1, "<of A><attribute>"},
	api.Contains: {2, "<of A>.contains(<B>)"}, api.ContainsAll: {2, "<of A>.containsAll(<B>)"}, api.ContainsAny: {2, "<of A>.containsAny(<B>)"},
	api.MakeSet: {several, "[<items>]"}, api.MakeRecord: {several, "{<items>}"},
}

var (
	nameForm  = regexp.MustCompile(`^[A-Za-z_][A-Za-z_0-9]*$`)
	pathForm  = regexp.MustCompile(`^[A-Za-z_][A-Za-z_0-9]*(::[A-Za-z_][A-Za-z_0-9]*)*$`)
	firstForm = regexp.MustCompile(`^(if|then|else|true|false|in|has|is)(::|$)`)
)

// told is what Expr answers, by the document's words.
func told(e api.Expr) (string, api.Errno) {
	levels, all := opened(e)
	if levels > 50 {
		return "", api.ErrDeep
	}
	for _, x := range all {
		if !mayBe(x) {
			return "", api.ErrArg
		}
	}
	return shown(e), api.OK
}

// opened is how many levels an expression has, and all expressions on them.
func opened(e api.Expr) (int, []api.Expr) {
	levels := 0
	var all []api.Expr
	for level := []api.Expr{e}; len(level) > 0; levels++ {
		all = append(all, level...)
		var next []api.Expr
		for _, x := range level {
			next = append(next, x.Kids...)
		}
		level = next
	}
	return levels, all
}

// mayBe tells whether an expression may be told, as far as its Kids aren't asked.
func mayBe(e api.Expr) bool {
	r, is := theRows[e.Op]
	if !is || r.kids != several && r.kids != len(e.Kids) {
		return false
	}
	words := ""
	switch e.Op {
	case api.Lit:
		return e.V.Kind == api.Bool || e.V.Kind == api.Int && e.V.Int > -1 || e.V.Kind == api.Text || e.V.Kind == api.Ref && pathIs(e.V.Uid.Type)
	case api.Var:
		words = "principal action resource context"
	case api.Slot:
		words = "principal resource"
	case api.Has:
		return nameForm.MatchString(e.Name)
	case api.Is:
		return pathIs(e.Name)
	case api.MakeRecord:
		return len(e.Names) == len(e.Kids)
	default:
		return true
	}
	return slices.Contains(strings.Fields(words), e.Name)
}

func pathIs(s string) bool { return pathForm.MatchString(s) && !firstForm.MatchString(s) }

// shown is the text of an expression that may be told.
func shown(e api.Expr) string {
	put := []string{"<Name>", e.Name, "<attribute>", "[" + texts.Quote(e.Name) + "]"}
	if nameForm.MatchString(e.Name) {
		put[3] = "." + e.Name
	}
	var items []string
	for i, kid := range e.Kids {
		text := shown(kid)
		if i < 3 {
			put = append(put, "<"+"ABC"[i:i+1]+">", text)
		}
		if i == 0 && (kid.Op == api.Not || kid.Op == api.Neg) {
			put = append(put, "<of A>", "("+text+")")
		} else if i == 0 {
			put = append(put, "<of A>", text)
		}
		if e.Op == api.MakeRecord {
			text = texts.Quote(e.Names[i]) + ": " + text
		}
		items = append(items, text)
	}
	switch e.V.Kind {
	case api.Bool:
		put = append(put, "<V>", strconv.FormatBool(e.V.Bool))
	case api.Int:
		put = append(put, "<V>", strconv.FormatInt(e.V.Int, 10))
	case api.Text:
		put = append(put, "<V>", texts.Quote(e.V.Text))
	case api.Ref:
		put = append(put, "<V>", shownUid(e.V.Uid))
	}
	put = append(put, "<items>", strings.Join(items, ", "))
	return strings.NewReplacer(put...).Replace(theRows[e.Op].text)
}

func shownUid(u api.Uid) string { return u.Type + "::" + texts.Quote(u.Id) }

// toldPolicies is what Policies answers, by the document's words.
func toldPolicies(l []api.Policy) (string, api.Errno) {
	all := ""
	for _, p := range l {
		principal, ok := shownScope("principal", p.Principal)
		action, okAction := shownScope("action", p.Action)
		resource, okResource := shownScope("resource", p.Resource)
		if !ok || !okAction || !okResource {
			return "", api.ErrArg
		}
		conds := ""
		for _, c := range p.Conds {
			text, e := told(c.E)
			if e != api.OK {
				return "", e
			}
			conds += map[bool]string{true: " when", false: " unless"}[c.When] + " { " + text + " }"
		}
		all += "@id(" + texts.Quote(p.Id) + ") " + map[bool]string{true: "permit", false: "forbid"}[p.Permit] + "(" + principal + ", " + action + ", " + resource + ")" + conds + ";\n"
	}
	return all, api.OK
}

// shownScope is the text of a scope at a place, and whether it may be told.
func shownScope(of string, s api.Scope) (string, bool) {
	kinds, forms := []int{api.Any, api.Equal, api.Within, api.OfType, api.Both}, []string{"", " == <uid>", " in <uid>", " is <type>", " is <type> in <uid>", " in [<list>]"}
	if of == "action" {
		kinds = []int{api.Any, api.Equal, api.Within, api.OneOf}
	}
	if !slices.Contains(kinds, s.Kind) || of == "action" && s.Slot {
		return "", false
	}
	form, uid, list := forms[s.Kind], shownUid(s.Uid), []string{}
	if s.Slot {
		uid = "?" + of
	}
	for _, u := range s.List {
		list = append(list, shownUid(u))
	}
	if strings.Contains(form, "<uid>") && !s.Slot && !pathIs(s.Uid.Type) || strings.Contains(form, "<type>") && !pathIs(s.Type) {
		return "", false
	}
	if strings.Contains(form, "<list>") && slices.ContainsFunc(s.List, func(u api.Uid) bool { return !pathIs(u.Type) }) {
		return "", false
	}
	return of + strings.NewReplacer("<uid>", uid, "<type>", s.Type, "<list>", strings.Join(list, ", ")).Replace(form), true
}

// clean is the expression with nothing in it but what its Op has.
func clean(e api.Expr) api.Expr {
	c := api.Expr{Op: e.Op}
	switch e.Op {
	case api.Lit:
		c.V = cleanValue(e.V)
	case api.Var, api.Slot, api.Is, api.Has, api.Get:
		c.Name = e.Name
	case api.MakeRecord:
		c.Names = e.Names
	}
	for _, kid := range e.Kids {
		c.Kids = append(c.Kids, clean(kid))
	}
	return c
}

func cleanValue(v api.Value) api.Value {
	switch v.Kind {
	case api.Bool:
		return some.Truth(v.Bool)
	case api.Int:
		return some.Num(v.Int)
	case api.Text:
		return some.Text(v.Text)
	}
	return some.Ref(v.Uid.Type, v.Uid.Id)
}

// cleanAll are the policies with nothing in them but what their Kinds and Ops have.
func cleanAll(l []api.Policy) []api.Policy {
	var all []api.Policy
	for _, p := range l {
		p.Principal, p.Action, p.Resource = cleanScope(p.Principal), cleanScope(p.Action), cleanScope(p.Resource)
		p.Conds = slices.Clone(p.Conds)
		for i := range p.Conds {
			p.Conds[i].E = clean(p.Conds[i].E)
		}
		all = append(all, p)
	}
	return all
}

func cleanScope(s api.Scope) api.Scope {
	c := api.Scope{Kind: s.Kind}
	if s.Kind == api.OfType || s.Kind == api.Both {
		c.Type = s.Type
	}
	if s.Kind == api.Equal || s.Kind == api.Within || s.Kind == api.Both {
		c.Slot = s.Slot
		if !s.Slot {
			c.Uid = s.Uid
		}
	}
	if s.Kind == api.OneOf {
		c.List = s.List
	}
	return c
}

// maker makes expressions and policies by chance.
type maker struct{ chance *rand.Rand }

func pick[T any](m maker, l ...T) T { return l[m.chance.Intn(len(l))] }

// name is one that may be an attribute's, often one that needs no quotes.
func (m maker) name() string {
	return pick(m, "a", "b_1", "if", "true", "contains", "principal", "", "a b", "1", "\"", "é", "a::b")
}

func (m maker) path() string {
	return pick(m, "A", "A::B", "principal", "A::true", "permit::if::is", "contains", "iff", "_")
}

func (m maker) uid() api.Uid {
	return api.Uid{Type: m.path(), Id: pick(m, "a", "", "\"\\", "\n", "a::b")}
}

// junk is what nothing may come of: the field in which it stands isn't told.
func (m maker) junk(dirty bool) (api.Value, string, []string) {
	if !dirty || m.chance.Intn(3) > 0 {
		return api.Value{}, "", nil
	}
	return some.Num(-7), "junk it is", []string{"junk", "junk"}
}

// expr is an expression that may be told, of at most so many levels; a dirty one has fields that its Ops don't have.
func (m maker) expr(levels int, dirty bool) api.Expr {
	op := 1 + m.chance.Intn(23)
	if levels == 1 {
		op = pick(m, api.Lit, api.Lit, api.Var, api.Slot, api.MakeSet, api.MakeRecord)
	}
	e := api.Expr{Op: op}
	e.V, e.Name, e.Names = m.junk(dirty)
	count := theRows[op].kids
	if count == several {
		count = min(m.chance.Intn(4), (levels-1)*4)
		if op == api.MakeRecord {
			e.Names = nil
		}
	}
	for range count {
		e.Kids = append(e.Kids, m.expr(1+m.chance.Intn(levels-1), dirty))
		if op == api.MakeRecord {
			e.Names = append(e.Names, m.name())
		}
	}
	switch op {
	case api.Lit:
		e.V = m.value(dirty)
	case api.Var:
		e.Name = pick(m, "principal", "action", "resource", "context")
	case api.Slot:
		e.Name = pick(m, "principal", "resource")
	case api.Has:
		e.Name = pick(m, "a", "_", "if", "then", "contains", "principal")
	case api.Is:
		e.Name = m.path()
	case api.Get:
		e.Name = m.name()
	}
	return e
}

func (m maker) value(dirty bool) api.Value {
	v := pick(m, some.Truth(true), some.Truth(false), some.Num(0), some.Num(7), some.Num(1<<63-1), some.Text(""), some.Text("a\"\n"), api.Value{Kind: api.Ref, Uid: m.uid()})
	if dirty && v.Kind == api.Bool {
		v.Int, v.Names, v.Items = -1, []string{"junk"}, []api.Value{some.Num(-1)}
	}
	return v
}

// spoilt is the expression with something at one place that is seldom such as may be.
func (m maker) spoilt(e api.Expr) api.Expr {
	c := some.CloneExpr(e)
	at := &c
	for len(at.Kids) > 0 && m.chance.Intn(4) > 0 {
		at = &at.Kids[m.chance.Intn(len(at.Kids))]
	}
	switch m.chance.Intn(7) {
	case 0:
		at.Op = m.chance.Intn(27) - 1
	case 1:
		at.Name = pick(m, "", "a", "a b", "A::B", "if", "A::", "principal", "action", "true::A")
	case 2:
		at.V = pick(m, api.Value{}, some.Num(-1), some.Set(), some.Record(""), some.Ref("if", "a"), some.Ref("A:B", "a"), some.Ref("A", ""), api.Value{Kind: 7})
	case 3:
		at.Kids = append(at.Kids, m.expr(1, false))
	case 4:
		at.Kids = at.Kids[:max(len(at.Kids)-1, 0)]
	case 5:
		at.Names = append(at.Names, "a")
	default:
		at.Names = at.Names[:max(len(at.Names)-1, 0)]
	}
	return c
}

// scope is one that its place has; a dirty one has fields that its Kind doesn't have.
func (m maker) scope(of string, dirty bool) api.Scope {
	s := api.Scope{Kind: pick(m, api.Any, api.Equal, api.Within, api.OfType, api.Both), Type: m.path(), Uid: m.uid(), Slot: m.chance.Intn(2) == 0}
	if of == "action" {
		s = api.Scope{Kind: pick(m, api.Any, api.Equal, api.Within, api.OneOf), Uid: m.uid()}
	}
	for range m.chance.Intn(4) {
		s.List = append(s.List, m.uid())
	}
	c := cleanScope(s)
	if !dirty {
		return c
	}
	if c.Type == "" {
		s.Type = "no path"
	}
	if c.Uid == (api.Uid{}) {
		s.Uid = api.Uid{Type: "no path"}
	}
	if s.Kind != api.OneOf {
		s.List = []api.Uid{{Type: "no path"}}
	}
	return s
}

// policies are some that may be told, with different Ids.
func (m maker) policies(count int, dirty bool) []api.Policy {
	var l []api.Policy
	for i := range count {
		p := api.Policy{
			Id: pick(m, "policy", "", "\"", "a\n", "é ") + strconv.Itoa(i), Permit: m.chance.Intn(2) == 0,
			Principal: m.scope("principal", dirty), Action: m.scope("action", dirty), Resource: m.scope("resource", dirty),
		}
		for range m.chance.Intn(4) {
			p.Conds = append(p.Conds, api.Cond{When: m.chance.Intn(2) == 0, E: m.expr(1+m.chance.Intn(4), dirty)})
		}
		l = append(l, p)
	}
	return l
}

// spoiltPolicies are policies with something in one of them that is seldom such as may be.
func (m maker) spoiltPolicies(l []api.Policy) []api.Policy {
	c := slices.Clone(l)
	p := &c[m.chance.Intn(len(c))]
	s := pick(m, &p.Principal, &p.Action, &p.Resource)
	switch m.chance.Intn(6) {
	case 0:
		s.Kind = m.chance.Intn(9) - 1
	case 1:
		s.Slot = !s.Slot
	case 2:
		s.Uid.Type = pick(m, "", "if", "A:B", "A::", "in::A", "A")
	case 3:
		s.Type = pick(m, "", "is", "A:B", "::A", "true::A", "A")
	case 4:
		s.List = append(slices.Clone(s.List), api.Uid{Type: pick(m, "", "has", "A b", "A")})
	default:
		p.Conds = slices.Clone(p.Conds)
		if len(p.Conds) > 0 {
			at := m.chance.Intn(len(p.Conds))
			p.Conds[at].E = m.spoilt(p.Conds[at].E)
		}
	}
	return c
}
