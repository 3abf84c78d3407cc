package schema

import (
	"fmt"
	"math"
	"slices"
	"strconv"
	"testing"

	"chamberlain/api"
	"chamberlain/some"
	"chamberlain/types"
)

var (
	truth = some.Type(api.TBool)
	num   = some.Type(api.TInt)
	text  = some.Type(api.TText)
)

func wantCheck(t *testing.T, s api.Schema, want api.Errno) {
	t.Helper()
	if e := Check(s); e != want {
		t.Fatalf("Check(%.300s): %d; not %d", fmt.Sprint(s), e, want)
	}
}

// wantWays asks of all pairs of the names, and some like them, whether a way leads from one to the other.
func wantWays(t *testing.T, s api.Schema, names []string, ofTypes, ofActions map[way]bool) {
	t.Helper()
	names = append(slices.Clone(names), "", "a", "AA", "Action", "\xff")
	for _, low := range names {
		for _, high := range names {
			if want := ofTypes[way{low, high}]; Above(s, low, high) != want {
				t.Fatalf("Above(%.300s, %q, %q): %t", fmt.Sprint(s), low, high, !want)
			}
			if want := low == high || ofActions[way{low, high}]; ActionIn(s, low, high) != want {
				t.Fatalf("ActionIn(%.300s, %q, %q): %t", fmt.Sprint(s), low, high, !want)
			}
		}
	}
}

// types that may be, and of which there may be an attribute, in some.PlainSchema.
func attrTypes() []api.Type {
	return []api.Type{
		truth, num, text, some.TRef("User"), some.TRef("A::B::Doc_1"), some.TSet(truth), some.TSet(some.TRef("Org")), some.TRecord(""),
		some.TRecord("a? b", num, some.TRef("Group")), some.TSet(some.TRecord("a", some.TSet(some.TRecord("")))),
		{Kind: api.TInt, Name: "Nobody"}, {Kind: api.TSet, Name: "Nobody", Elem: []api.Type{num}}, {Kind: api.TText, Elem: []api.Type{num, text}, Attrs: some.Attrs("a b", num, truth)}, // what says nothing of their kinds
	}
}

// faults are types that may not be, or of which there may be no attribute, in some.PlainSchema, each one with one fault.
func faults() []api.Type {
	return []api.Type{
		some.Type(api.TNever), some.Type(api.TTrue), some.Type(api.TFalse), {Kind: api.TTrue, Name: "User"},
		some.TRef(""), some.TRef("Nobody"), some.TRef("user"), some.TRef("Users"), some.TRef("Action"), some.TRef("view"), some.TRef("A::B"), some.TRef("Doc_1"), some.TRef("all"),
		{Kind: -1}, {Kind: 9}, {Kind: math.MaxInt}, {Kind: math.MinInt}, {Kind: 0x104}, {Kind: api.TSet}, {Kind: api.TSet, Elem: []api.Type{num, num}},
		some.TRecord("b a", num, num), some.TRecord("a a", num, num), {Kind: api.TInt, Attrs: some.Attrs("a a", num, num)},
	}
}

// around are types with one within them, in each place.
func around(one api.Type) []api.Type {
	return []api.Type{
		some.TSet(one), some.TRecord("a", one), some.TRecord("a?", one), some.TRecord("a b c", num, one, num), some.TSet(some.TRecord("a b", num, some.TSet(one))),
		{Kind: api.TInt, Elem: []api.Type{one}}, {Kind: api.TText, Elem: []api.Type{num, one}}, {Kind: api.TBool, Attrs: some.Attrs("a", one)}, // whatever its kind
		{Kind: api.TRef, Name: "User", Elem: []api.Type{one, num}}, {Kind: api.TRef, Name: "User", Attrs: some.Attrs("a b", num, one)},
		{Kind: api.TRecord, Elem: []api.Type{one}}, {Kind: api.TSet, Elem: []api.Type{num}, Attrs: some.Attrs("a", one)},
	}
}

// withRow is some.PlainSchema with a row of attributes at the one of its places.
func withRow(place int, row []api.Attr) api.Schema {
	s := some.PlainSchema()
	*rows(s)[place] = row
	return s
}

func wantRow(t *testing.T, row []api.Attr, want api.Errno) {
	t.Helper()
	for place := range rows(some.PlainSchema()) {
		wantCheck(t, withRow(place, row), want)
	}
}

func TestP12_1Check(t *testing.T) {
	for _, s := range []api.Schema{
		{}, {Types: []api.EntityType{}, Actions: []api.ActionType{}}, some.PlainSchema(),
		some.Schema("type A"), some.Schema("type A A"), some.Schema("type A B", "type B A"), some.Schema("type A A A A"), // types may go round
		some.Schema("type a_1::B::_"), some.Schema("type Action::A"), some.Schema("type A::Action"), some.Schema("type action"), some.Schema("type Actions"), some.Schema("type if"),
		some.Schema("action v"), some.Schema("action v w w", "action w"), some.Schema("action w", "action v w w"), some.Schema("action Action"),
		some.Schema("type v", "action v >v <v"), // a type and an action of one name
		{Actions: []api.ActionType{{Id: ""}, {Id: "no path", In: []string{""}}, {Id: "\xff"}, {Id: "no  path"}, {Id: "::"}}},
	} {
		wantCheck(t, s, api.OK)
	}
}

func TestP12_1CheckTwice(t *testing.T) {
	for _, s := range []api.Schema{
		some.Schema("type A", "type A"), some.Schema("type A", "type B", "type C", "type A B"), some.Schema("type C", "type A", "type A"),
		some.Schema("action v", "action v"), some.Schema("action v", "action w", "action u", "action v w"), some.Schema("action u", "action v", "action v"),
		some.Schema("type A", "action v", "action v"), some.Schema("type A", "type A", "action v"),
		{Types: []api.EntityType{{Name: ""}, {Name: ""}}}, {Actions: []api.ActionType{{Id: ""}, {Id: ""}}}, // also of what may not be a name
		some.Schema("type Action", "type Action"), some.Schema("type A nobody", "type A"), some.Schema("type A", "action v v", "action v"),
		some.Schema("action v w", "action w v", "action u", "action u"), some.Schema("type A nobody", "action v nobody >nobody <nobody", "action v"),
	} {
		wantCheck(t, s, api.ErrTwice)
	}
	for _, s := range []api.Schema{some.Schema("type A", "type a"), some.Schema("type A", "type A::A"), some.Schema("action v", "action V", "action vv"), some.Schema("type A", "action A")} {
		wantCheck(t, s, api.OK)
	}
}

func TestP12_1CheckNames(t *testing.T) {
	for _, name := range []string{"", "1", "a b", "a-b", "a:b", "a::", "::a", "a::::b", "a::1", "é", "\xff", "a\x00", " a", "a\n", "Action"} {
		wantCheck(t, api.Schema{Types: []api.EntityType{{Name: name}}}, api.ErrSchema)
		wantCheck(t, api.Schema{Types: []api.EntityType{{Name: "A"}, {Name: "B"}, {Name: name}}}, api.ErrSchema)
		wantCheck(t, api.Schema{Actions: []api.ActionType{{Id: name}}}, api.OK)
	}
}

// TestP12_1CheckLists has names that aren't there, and some that are there elsewhere, at each place where a name stands.
func TestP12_1CheckLists(t *testing.T) {
	for place := range names(some.PlainSchema()) {
		for _, other := range []string{"", "Nobody", "user", "USER", "User ", "A::B", "Action", "Action::view", "\xff", "view", "all", "Org", "User"} {
			s := some.PlainSchema()
			*names(s)[place] = other
			wantCheck(t, s, checked(s))
		}
	}
	for _, s := range []api.Schema{
		some.Schema("type A B"), some.Schema("type A A A B"), some.Schema("type A", "type B A C"), some.Schema("type A v", "action v"), some.Schema("type A Action"),
		some.Schema("action v w"), some.Schema("action v", "action w v u"), some.Schema("type A", "action v A"), some.Schema("action v", "action w V"),
		some.Schema("action v >A"), some.Schema("action v <A"), some.Schema("type A", "action v >A >B"), some.Schema("type A", "action v >A <B"), some.Schema("type A", "action v <A >B"),
		some.Schema("type A", "action v >A <A <B <A"), some.Schema("type A", "action v >v <A"), some.Schema("type A", "action v >A <v"), some.Schema("type A", "action v", "action w >A <A >A::A"),
		some.Schema("type A", "action v >Action <A"), some.Schema("type A", "action v >A <Action"), some.Schema("type A", "action Action >A <Action"),
	} {
		wantCheck(t, s, api.ErrSchema)
	}
	wantCheck(t, api.Schema{Types: []api.EntityType{{Name: "A", In: []string{""}}}}, api.ErrSchema)
	wantCheck(t, api.Schema{Actions: []api.ActionType{{Id: "v", In: []string{""}}}}, api.ErrSchema)
	wantCheck(t, api.Schema{Actions: []api.ActionType{{Id: "v", Principals: []string{""}}, {Id: ""}}}, api.ErrSchema)
}

func TestP12_1CheckRows(t *testing.T) {
	for _, one := range attrTypes() {
		wantRow(t, some.Attrs("a", one), api.OK)
		wantRow(t, some.Attrs("a b? c", num, one, num), api.OK)
		for _, outer := range around(one) {
			wantRow(t, some.Attrs("a b", text, outer), api.OK)
		}
	}
	for _, one := range faults() {
		wantRow(t, some.Attrs("a", one), api.ErrSchema)
		wantRow(t, some.Attrs("a b c?", num, num, one), api.ErrSchema)
		for _, outer := range around(one) {
			wantRow(t, some.Attrs("a b c", num, outer, text), api.ErrSchema)
			for _, outermost := range around(outer) {
				wantRow(t, some.Attrs("a", outermost), api.ErrSchema)
			}
		}
		wantRow(t, some.Attrs("a", some.TypeTower(40, one)), api.ErrSchema)
	}
	for _, row := range [][]api.Attr{some.Attrs("a a", num, num), some.Attrs("b a", num, num), some.Attrs("a? a", num, num), some.Attrs("a c b", num, num, num)} {
		wantRow(t, row, api.ErrSchema)
	}
	wantRow(t, []api.Attr{{Name: "", Type: num}, {Name: " ", Type: num}, {Name: "no path", Type: num}, {Name: "\xff", Type: num}}, api.OK)
	wantCheck(t, api.Schema{Actions: []api.ActionType{{Id: "A", Context: some.Attrs("a", some.TRef("A"))}}}, api.ErrSchema) // an action is no type
}

// TestP12_1CheckDeep has attributes that are nested as deep as may be, the row's own record counted, and deeper.
func TestP12_1CheckDeep(t *testing.T) {
	for _, depth := range []int{1, 2, 48, 49, 50, 51, 100, 1 << 16} {
		want := api.OK
		if depth > 49 {
			want = api.ErrSchema
		}
		wantRow(t, some.Attrs("a b", num, some.TypeTower(depth, some.TRef("User"))), want)
		wantRow(t, some.Attrs("a", some.TypeTower(depth, some.TRef("Nobody"))), api.ErrSchema)
	}
}

// TestP12_1CheckCycle holds Check of all ways to put a few actions below one another against an oracle.
func TestP12_1CheckCycle(t *testing.T) {
	ids := []string{"v", "", "A"}
	count := map[api.Errno]int{}
	for _, in := range graphs(ids) {
		s := actionsOf(ids, in)
		want := checked(s)
		count[want]++
		wantCheck(t, s, want)
		for i := range in { // each way up, twice, and another way round
			in[i] = append(in[i], in[i]...)
		}
		wantCheck(t, s, want)
		slices.Reverse(s.Actions)
		wantCheck(t, s, want)
		s.Types = typesOf(ids, in).Types // no path
		wantCheck(t, s, api.ErrSchema)
	}
	if count[api.OK] != 25 || count[api.ErrCycle] != 512-25 { // there are 25 such graphs without a way round
		t.Error(count)
	}
	ids = append(ids, "B")
	for i, in := range graphs(ids) {
		if s := actionsOf(ids, in); i%5 == 0 {
			wantCheck(t, s, checked(s))
		}
	}
}

func TestP12_1CheckCycleLast(t *testing.T) {
	for _, round := range []api.Schema{some.Schema("action v v"), some.Schema("action v w", "action w v"), some.Schema("action u v", "action v w", "action w x v", "action x")} {
		wantCheck(t, round, api.ErrCycle)
		s := some.CloneSchema(round)
		s.Types = some.PlainSchema().Types
		wantCheck(t, s, api.ErrCycle)
		s.Actions = append(s.Actions, some.PlainSchema().Actions[1:3]...)
		wantCheck(t, s, api.ErrCycle)
		for _, fault := range []string{"type a b", "type Action", "action y z", "action y >z", "action y <z"} {
			with, also := some.CloneSchema(s), some.Schema(fault)
			with.Types, with.Actions = append(with.Types, also.Types...), append(with.Actions, also.Actions...)
			wantCheck(t, with, api.ErrSchema)
			with.Actions = append(with.Actions, with.Actions[0])
			wantCheck(t, with, api.ErrTwice)
			with.Actions = with.Actions[:len(with.Actions)-1]
			with.Types = append(with.Types, with.Types[0])
			wantCheck(t, with, api.ErrTwice)
		}
		s.Actions[0].Context = some.Attrs("a", some.Type(api.TTrue))
		wantCheck(t, s, api.ErrSchema)
		s.Actions[0].Context, s.Types[3].Attrs = nil, some.Attrs("a", some.TypeTower(50, num))
		wantCheck(t, s, api.ErrSchema)
	}
}

// TestP12_1CheckChance holds Check against the document's words, of schemas made by chance and spoilt ones.
func TestP12_1CheckChance(t *testing.T) {
	s := &source{88172645463325252}
	count := map[api.Errno]int{}
	for range 30000 {
		made := s.Schema()
		wantCheck(t, made, api.OK)
		made = some.CloneSchema(made) // one name's In may be another one's, in the same memory
		for range s.Below(3) {
			s.spoil(made)
		}
		want := checked(made)
		count[want]++
		wantCheck(t, made, want)
	}
	for _, e := range []api.Errno{api.OK, api.ErrTwice, api.ErrSchema, api.ErrCycle} {
		if count[e] < 300 {
			t.Error(count)
		}
	}
}

// spoil changes a schema at one place, so that it may not be any more, or may be another one.
func (s *source) spoil(made api.Schema) {
	all := names(made)
	if len(all) == 0 {
		return
	}
	switch s.Below(4) {
	case 0:
		*all[s.Below(len(all))] = *all[s.Below(len(all))]
	case 1:
		*all[s.Below(len(all))] = []string{"", "Nobody", "Action", "A", "1"}[s.Below(5)]
	case 2:
		if n := len(made.Actions); n > 0 {
			a := &made.Actions[s.Below(n)]
			a.In = append(a.In, made.Actions[s.Below(n)].Id)
		}
	case 3:
		l := rows(made)
		row := l[s.Below(len(l))]
		if inner := nested(*row); len(inner) > 0 {
			*inner[s.Below(len(inner))] = faults()[s.Below(len(faults()))]
			return
		}
		*row = some.Attrs("a b", num, some.TypeTower(46+s.Below(6), some.Type(s.Below(9))))
	}
}

func TestP12_2Type(t *testing.T) {
	s := some.PlainSchema()
	s.Types = append(s.Types, api.EntityType{}, api.EntityType{Name: "Org", In: []string{"User"}}, api.EntityType{Name: "", In: []string{"Org"}}, api.EntityType{Name: "no path"})
	s.Actions = append(s.Actions, api.ActionType{Id: "Role"})
	for i, one := range s.Types {
		if i != 5 && i != 6 { // there is one of that name ahead of these
			if found, ok := Type(s, one.Name); !ok || !some.EqualEntityType(found, one) {
				t.Errorf("Type %q: %v, %t", one.Name, found, ok)
			}
		}
	}
	if found, ok := Type(s, "Org"); !ok || len(found.In) != 0 {
		t.Error(found, ok)
	}
	if found, ok := Type(s, ""); !ok || len(found.In) != 0 {
		t.Error(found, ok)
	}
	for _, name := range []string{"user", "Users", "A::B", "Action", "view", "all", "Role", "\xff", "no  path"} {
		wantNoType(t, s, name)
	}
	wantNoType(t, some.PlainSchema(), "")
	wantNoType(t, api.Schema{}, "")
}

func wantNoType(t *testing.T, s api.Schema, name string) {
	t.Helper()
	if found, ok := Type(s, name); ok || found.Name != "" || found.In != nil || found.Attrs != nil {
		t.Errorf("Type %q: %v, %t", name, found, ok)
	}
}

func TestP12_2Action(t *testing.T) {
	s := some.PlainSchema()
	s.Actions = append(s.Actions, api.ActionType{}, api.ActionType{Id: "all", In: []string{"view"}}, api.ActionType{Id: "", Resources: []string{"Org"}}, api.ActionType{Id: "no path"})
	s.Types = append(s.Types, api.EntityType{Name: "walk"})
	for i, one := range s.Actions {
		if i != 5 && i != 6 {
			if found, ok := Action(s, one.Id); !ok || !some.EqualActionType(found, one) {
				t.Errorf("Action %q: %v, %t", one.Id, found, ok)
			}
		}
	}
	if found, ok := Action(s, "all"); !ok || len(found.In) != 0 {
		t.Error(found, ok)
	}
	if found, ok := Action(s, ""); !ok || len(found.Resources) != 0 {
		t.Error(found, ok)
	}
	for _, id := range []string{"View", "views", "User", "Action", "walk", "\xff", "no  path"} {
		wantNoAction(t, s, id)
	}
	wantNoAction(t, some.PlainSchema(), "")
	wantNoAction(t, api.Schema{}, "")
}

func wantNoAction(t *testing.T, s api.Schema, id string) {
	t.Helper()
	if found, ok := Action(s, id); ok || found.Id != "" || found.In != nil || found.Principals != nil || found.Resources != nil || found.Context != nil {
		t.Errorf("Action %q: %v, %t", id, found, ok)
	}
}

func TestP12_2Envs(t *testing.T) {
	for _, c := range []struct {
		s    api.Schema
		want []Env
	}{
		{api.Schema{}, nil},
		{some.Schema("type A", "type B"), nil},
		{some.Schema("type A", "action v", "action w >A", "action x <A"), nil},
		{some.Schema("type A", "action v >A <A"), []Env{{"A", "v", "A"}}},
		{some.Schema("type A", "type B", "type C", "action v >B >A <C <B", "action u >C <A"), []Env{{"B", "v", "C"}, {"B", "v", "B"}, {"A", "v", "C"}, {"A", "v", "B"}, {"C", "u", "A"}}},
		{some.Schema("action w >A <B >A <B <C"), []Env{{"A", "w", "B"}, {"A", "w", "B"}, {"A", "w", "C"}, {"A", "w", "B"}, {"A", "w", "B"}, {"A", "w", "C"}}},
		{some.Schema("action w >A <B", "action w >B <A", "action w >A <B"), []Env{{"A", "w", "B"}, {"B", "w", "A"}, {"A", "w", "B"}}}, // also of what may not be
		{some.Schema("action z >Z <Z", "action a all >A <A", "action all >Z"), []Env{{"Z", "z", "Z"}, {"A", "a", "A"}}},
		{api.Schema{Actions: []api.ActionType{{Principals: []string{""}, Resources: []string{"", "\xff"}}}}, []Env{{}, {"", "", "\xff"}}},
		{some.PlainSchema(), []Env{{"User", "view", "A::B::Doc_1"}, {"Group", "view", "A::B::Doc_1"}, {"User", "edit", "A::B::Doc_1"}, {"User", "edit", "User"}, {"User", "edit", "Org"}, {"User", "edit", "A::B::Doc_1"}, {"User", "edit", "User"}, {"User", "edit", "Org"}}},
	} {
		if l := Envs(c.s); !slices.Equal(l, c.want) {
			t.Errorf("Envs(%v): %v, not %v", c.s, l, c.want)
		}
	}
	s := &source{2463534242}
	for range 2000 {
		made := s.Schema()
		l := Envs(made)
		for _, a := range made.Actions {
			for i, principal := range a.Principals {
				for j, resource := range a.Resources {
					if env := l[i*len(a.Resources)+j]; env != (Env{Principal: principal, Action: a.Id, Resource: resource}) {
						t.Fatal(made, env)
					}
				}
			}
			l = l[len(a.Principals)*len(a.Resources):]
		}
		if len(l) > 0 {
			t.Fatal(made, l)
		}
	}
}

func TestP12_3Examples(t *testing.T) {
	s := some.Schema("type User Group", "type Group Group")
	if !Above(s, "User", "Group") || !Above(s, "Group", "Group") || Above(s, "Group", "User") || Above(s, "User", "User") {
		t.Error(s)
	}
	s = some.PlainSchema()
	if !ActionIn(s, "edit", "read") || !ActionIn(s, "edit", "all") || !ActionIn(s, "all", "all") || ActionIn(s, "all", "edit") || ActionIn(s, "read", "view") {
		t.Error(s)
	}
	if !Above(s, "A::B::Doc_1", "Org") || !Above(s, "User", "Org") || Above(s, "Org", "Org") || Above(s, "A::B::Doc_1", "User") {
		t.Error(s)
	}
}

// TestP12_3Ways holds all ways of few types, and of few actions, against an oracle.
func TestP12_3Ways(t *testing.T) {
	three := []string{"A", "B", "C"}
	for _, in := range graphs(three) {
		s := typesOf(three, in)
		wantWays(t, s, three, typeWays(s), nil)
		s = actionsOf(three, in)
		wantWays(t, s, three, nil, actionWays(s))
	}
	four := append(three, "v")
	all := graphs(four)
	for i := 0; i < len(all); i += 11 {
		s := typesOf(four, all[i])
		s.Actions = actionsOf(four, all[(i*7+5)%len(all)]).Actions // the ones go by nothing of the others
		wantWays(t, s, four, typeWays(s), actionWays(s))
	}
}

// TestP12_3First has several of one name, of which the first one counts, and names that aren't there.
func TestP12_3First(t *testing.T) {
	rows := [][]string{nil, {"A"}, {"B"}, {"X"}, {"A", "B"}, {"B", "X"}, {"B", "B", "A"}}
	for _, names := range [][]string{{"A", "A"}, {"A", "B", "A"}, {"A", "A", "B"}, {"A", "B", "B"}, {"X", "A", "X"}, {"", "A", ""}} {
		for _, in := range some.Lists(len(names), rows) {
			if len(in) < len(names) {
				continue
			}
			s := typesOf(names, in)
			wantWays(t, s, []string{"A", "B", "X"}, typeWays(s), nil)
			s = actionsOf(names, in)
			wantWays(t, s, []string{"A", "B", "X"}, nil, actionWays(s))
		}
	}
}

func TestP12_4Transitive(t *testing.T) {
	s := &source{1181783497276652981}
	for range 3000 {
		made := s.Schema()
		if s.Below(2) == 0 {
			made = some.CloneSchema(made)
			s.spoil(made)
		}
		var all []string
		for _, name := range names(made) {
			all = append(all, *name)
		}
		slices.Sort(all)
		all = slices.Compact(all)
		for _, a := range all {
			for _, b := range all {
				for _, c := range all {
					if Above(made, a, b) && Above(made, b, c) && !Above(made, a, c) || ActionIn(made, a, b) && ActionIn(made, b, c) && !ActionIn(made, a, c) {
						t.Fatal(made, a, b, c)
					}
				}
			}
		}
		wantWays(t, made, all, typeWays(made), actionWays(made))
	}
}

// TestRulesUnchanged calls all functions of schemas with spare room in their lists, which are to stay as they are, and twice, which is to answer the same.
func TestRulesUnchanged(t *testing.T) {
	s := &source{88172645463325252}
	for range 2000 {
		made := some.CloneSchema(s.Schema())
		s.spoil(made)
		made.Types, made.Actions = append(made.Types, api.EntityType{Name: "last"}), append(made.Actions, api.ActionType{Id: "last"})
		before := some.CloneSchema(made)
		made.Types, made.Actions = made.Types[:len(made.Types)-1], made.Actions[:len(made.Actions)-1]
		first := told(made)
		if again := told(made); again != first {
			t.Fatal(made, first, again)
		}
		if !some.EqualSchema(api.Schema{Types: made.Types[:len(made.Types)+1], Actions: made.Actions[:len(made.Actions)+1]}, before) {
			t.Fatal(made, before)
		}
	}
}

// told is what all functions tell of a schema.
func told(s api.Schema) string {
	var l []any
	l = append(l, Check(s), Envs(s))
	for _, low := range names(s) {
		one, found := Type(s, *low)
		other, also := Action(s, *low)
		l = append(l, one, found, other, also)
		for _, high := range names(s) {
			l = append(l, Above(s, *low, *high), ActionIn(s, *low, *high))
		}
	}
	return fmt.Sprint(l...)
}

func TestRulesNewMemory(t *testing.T) {
	s := some.PlainSchema()
	l, before := Envs(s), Envs(s)
	for i := range l[:cap(l)] {
		l[:cap(l)][i] = Env{"spoilt", "spoilt", "spoilt"}
	}
	if again := Envs(s); !slices.Equal(again, before) || !some.EqualSchema(s, some.PlainSchema()) {
		t.Error(again, s)
	}
}

// TestRulesNil has empty lists where others are nil.
func TestRulesNil(t *testing.T) {
	s := some.PlainSchema()
	for i := range s.Types {
		s.Types[i].In = append([]string{}, s.Types[i].In...)
		s.Types[i].Attrs = append([]api.Attr{}, s.Types[i].Attrs...)
	}
	for i := range s.Actions {
		a := &s.Actions[i]
		a.In, a.Principals, a.Resources = append([]string{}, a.In...), append([]string{}, a.Principals...), append([]string{}, a.Resources...)
		a.Context = append([]api.Attr{}, a.Context...)
	}
	if told(s) != told(some.PlainSchema()) {
		t.Error(told(s))
	}
}

// TestRulesEnds has attributes' types that are within themselves, and long ways.
func TestRulesEnds(t *testing.T) {
	for kind := -1; kind <= 9; kind++ {
		elems, attrs, first := make([]api.Type, 2), make([]api.Attr, 2), make([]api.Type, 1)
		elems[0], elems[1] = num, api.Type{Kind: kind, Name: "User", Elem: elems}
		attrs[0], attrs[1] = some.Attrs("a", num)[0], api.Attr{Name: "b", Type: api.Type{Kind: kind, Name: "User", Attrs: attrs}}
		first[0] = api.Type{Kind: kind, Name: "User", Elem: first, Attrs: attrs}
		for _, row := range [][]api.Attr{some.Attrs("a", elems[1]), attrs, some.Attrs("a b", num, first[0])} {
			wantRow(t, row, api.ErrSchema)
			s := withRow(0, row)
			if one, ok := Type(s, "User"); !ok || len(one.Attrs) != len(row) {
				t.Error("Type of what is within itself")
			}
			if !Above(s, "User", "Org") || len(Envs(s)) != 8 {
				t.Error("Above, Envs of what is within itself")
			}
		}
	}
}

// TestRulesLong has a line of many types, and of many actions, each one in the next, in any order.
func TestRulesLong(t *testing.T) {
	const n = 1 << 17
	var s api.Schema
	for i := range n {
		at := i * 12345 % n // each number once, for the one is odd and the other a power of two
		name, next := "n"+strconv.Itoa(at), []string{"n" + strconv.Itoa(at+1)}
		if at == n-1 {
			next = nil
		}
		s.Types = append(s.Types, api.EntityType{Name: name, In: next})
		s.Actions = append(s.Actions, api.ActionType{Id: name, In: next})
	}
	last := "n" + strconv.Itoa(n-1)
	wantCheck(t, s, api.OK)
	if !Above(s, "n0", last) || Above(s, last, "n0") || Above(s, "n7", "n7") || !ActionIn(s, "n0", last) || ActionIn(s, "n1", "n0") {
		t.Error("a long line")
	}
	for i, a := range s.Actions {
		if a.Id == last {
			s.Actions[i].In, s.Types[i].In = []string{"n0"}, []string{"n0"}
		}
	}
	wantCheck(t, s, api.ErrCycle)
	if !Above(s, "n7", "n7") || !Above(s, last, "n0") || !ActionIn(s, "n1", "n0") {
		t.Error("a long line that goes round")
	}
}

// TestRulesMany has two names on each of many levels, each one in both of the next: 2^60 ways lead up.
func TestRulesMany(t *testing.T) {
	var s api.Schema
	for i := range 60 {
		next := []string{"A" + strconv.Itoa(i+1), "B" + strconv.Itoa(i+1)}
		if i == 59 {
			next = nil
		}
		for _, letter := range []string{"A", "B"} {
			name := letter + strconv.Itoa(i)
			s.Types = append(s.Types, api.EntityType{Name: name, In: next})
			s.Actions = append(s.Actions, api.ActionType{Id: name, In: next})
		}
	}
	wantCheck(t, s, api.OK)
	if !Above(s, "A0", "B59") || Above(s, "B59", "A0") || Above(s, "A0", "B0") || !ActionIn(s, "B0", "A59") || ActionIn(s, "B0", "A0") {
		t.Error("a ladder")
	}
}

// TestWordsRow: what Check takes of attributes, types.Check takes.
func TestWordsRow(t *testing.T) {
	s := &source{2463534242}
	for range 5000 {
		made := s.Schema()
		for _, row := range rows(made) {
			if e := types.Check(api.Type{Kind: api.TRecord, Attrs: *row}); e != api.OK {
				t.Fatal(*row, e)
			}
		}
	}
}
