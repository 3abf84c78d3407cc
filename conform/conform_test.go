package conform

import (
	"fmt"
	"math"
	"slices"
	"strconv"
	"testing"

	"chamberlain/api"
	"chamberlain/entity"
	"chamberlain/schema"
	"chamberlain/some"
	"chamberlain/types"
	"chamberlain/value"
)

var (
	never = some.Type(api.TNever)
	yes   = some.Type(api.TTrue)
	no    = some.Type(api.TFalse)
	truth = some.Type(api.TBool)
	num   = some.Type(api.TInt)
	text  = some.Type(api.TText)
	one   = some.Num(1)
)

func wantValue(t *testing.T, v api.Value, of api.Type, want bool) {
	t.Helper()
	if Value(v, of) != want {
		t.Fatalf("Value(%.300s, %.300s): %t", fmt.Sprint(v), fmt.Sprint(of), !want)
	}
}

func wantStore(t *testing.T, s api.Schema, l []api.Entity, want api.Errno) {
	t.Helper()
	if e := Store(s, l); e != want {
		t.Fatalf("Store(%.300s, %.1000s): %d; not %d", fmt.Sprint(s), fmt.Sprint(l), e, want)
	}
}

func wantRequest(t *testing.T, s api.Schema, q api.Request, want api.Errno) {
	t.Helper()
	if e := Request(s, q); e != want {
		t.Fatalf("Request(%.300s, %.300s): %d; not %d", fmt.Sprint(s), fmt.Sprint(q), e, want)
	}
}

// universe is types that may be, and values of some leaves, nested up to so deep, of which each pair is asked.
type universe struct {
	levels int
	leaves []api.Value
	types  []api.Type
	values []api.Value
}

// universes are one with two attributes, and one that is nested deeper.
func universes() map[string]universe {
	wide := []api.Type{never, yes, no, truth, num, text, some.TRef(""), some.TRef("A"), some.TRef("A::B")}
	deep, few := []api.Type{never, yes, truth, some.TRef("A")}, []api.Value{some.Truth(true), some.Ref("A", "a")}
	return map[string]universe{
		"wide": {2, leaves(), some.AllTypes(2, wide, "a", "b"), values(2, leaves(), "a", "b")},
		"deep": {3, few, some.AllTypes(4, deep, "a"), values(3, few, "a")},
	}
}

func TestP13_1Examples(t *testing.T) {
	wantValue(t, one, text, false)
	wantValue(t, one, num, true)
	wantValue(t, some.Text("1"), text, true)
	wantValue(t, some.Text("1"), num, false)
	wantValue(t, some.Truth(true), yes, true)
	wantValue(t, some.Truth(true), no, false)
	wantValue(t, some.Truth(false), yes, false)
	wantValue(t, some.Truth(false), no, true)
	wantValue(t, some.Ref("A", "A::B"), some.TRef("A"), true)
	for _, name := range []string{"", "a", "AA", "A::B", "A::", "A\x00", "B", "Action"} {
		wantValue(t, some.Ref("A", name), some.TRef(name), false)
		wantValue(t, some.Ref(name, "A"), some.TRef("A"), false)
		wantValue(t, some.Ref(name, ""), some.TRef(name), true)
		wantValue(t, some.Text(name), some.TRef(name), false)
	}
	for _, n := range []int64{0, -1, math.MinInt64, math.MaxInt64} {
		wantValue(t, some.Num(n), num, true)
		wantValue(t, some.Num(n), truth, false)
	}
	for _, name := range []string{"", "true", "\xff", "0"} {
		wantValue(t, some.Text(name), text, true)
		wantValue(t, some.Text(name), truth, false)
	}
}

// TestP13_1Universes asks of all pairs of a value and a type: of the type are just those that are made by it.
func TestP13_1Universes(t *testing.T) {
	for name, u := range universes() {
		keys := map[string]bool{}
		for _, v := range u.values {
			keys[key(v)] = true
		}
		if len(keys) != len(u.values) || keys[""] {
			t.Fatal(name, len(keys), len(u.values))
		}
		count := map[bool]int{}
		for _, of := range u.types {
			want := map[string]bool{}
			for _, v := range made(u.levels, u.leaves, of) {
				want[key(v)] = true
			}
			for _, v := range u.values {
				is := want[key(v)]
				wantValue(t, v, of, is)
				if ofType(v, of) != is {
					t.Fatal("the oracles", v, of)
				}
				count[is]++
			}
		}
		if count[true] < 400 || count[false] < 10000 {
			t.Error(name, count)
		}
	}
}

func TestP13_1Never(t *testing.T) {
	for _, v := range values(2, leaves(), "a") {
		wantValue(t, v, never, false)
		wantValue(t, some.Set(v), some.TSet(never), false)
		wantValue(t, some.Record("a", v), some.TRecord("a?", never), false)
	}
	wantValue(t, some.Set(), some.TSet(never), true)
	wantValue(t, some.Record(""), some.TRecord("a?", never), true)
	wantValue(t, some.Record(""), some.TRecord("a", never), false)
}

// TestP13_1Sets has what is of another type at each place of a set.
func TestP13_1Sets(t *testing.T) {
	for _, n := range []int{0, 1, 2, 3, 4095, 4096} {
		set := some.Set()
		for i := range n {
			set.Items = append(set.Items, some.Num(int64(i-n/2)))
		}
		wantValue(t, set, some.TSet(num), true)
		for _, elem := range []api.Type{never, truth, text, some.TSet(num), some.TRef("A"), some.TRecord("")} {
			wantValue(t, set, some.TSet(elem), n == 0)
		}
		for _, of := range []api.Type{num, truth, text, some.TRecord(""), some.TRecord("a?", num), some.TRef("")} {
			wantValue(t, set, of, false)
		}
	}
	rows := map[int][]api.Value{api.TBool: {some.Truth(false), some.Truth(true)}, api.TInt: {some.Num(1), some.Num(2), some.Num(3)}, api.TText: {some.Text(""), some.Text("a")}, api.TRef: {some.Ref("A", "a")}}
	for kind, row := range rows {
		of := api.Type{Kind: kind, Name: "A"}
		wantValue(t, some.Set(row...), some.TSet(of), true)
		for _, other := range []api.Value{some.Truth(true), some.Num(2), some.Text("b"), some.Ref("A::B", ""), some.Set(), some.Record("")} {
			for place := range row {
				l := slices.Clone(row)
				l[place] = other
				wantValue(t, canon(some.Set(l...)), some.TSet(of), leafOf(other, of))
			}
		}
	}
	wantValue(t, some.Set(some.Truth(true)), some.TSet(yes), true)
	wantValue(t, some.Set(some.Truth(false), some.Truth(true)), some.TSet(yes), false)
	wantValue(t, some.Set(some.Truth(false), some.Truth(true)), some.TSet(no), false)
}

func TestP13_1Records(t *testing.T) {
	of := some.TRecord("a b? c d?", num, text, truth, some.TRecord("x?", num))
	for _, c := range []struct {
		v    api.Value
		want bool
	}{
		{some.Record("a c", one, some.Truth(true)), true},
		{some.Record("a b c d", one, some.Text(""), some.Truth(true), some.Record("")), true},
		{some.Record("a b c d", one, some.Text(""), some.Truth(true), some.Record("x", one)), true},
		{some.Record("a c d", one, some.Truth(true), some.Record("x", one)), true},
		{some.Record(""), false},
		{some.Record("a", one), false}, // one that must be there isn't
		{some.Record("c", some.Truth(true)), false},
		{some.Record("a b d", one, some.Text(""), some.Record("")), false},
		{some.Record("b c d", some.Text(""), some.Truth(true), some.Record("")), false},
		{some.Record("a c", some.Truth(true), one), false}, // of another one's type
		{some.Record("a b c", one, one, some.Truth(true)), false},
		{some.Record("a c d", one, some.Truth(true), one), false},
		{some.Record("a c d", one, some.Truth(true), some.Record("x", some.Text(""))), false},
		{some.Record("a c d", one, some.Truth(true), some.Record("y", one)), false},
		{some.Record("a c e", one, some.Truth(true), one), false}, // one that there isn't
		{some.Record("A a c", one, one, some.Truth(true)), false},
		{some.Record("a aa c", one, one, some.Truth(true)), false},
		{some.Record("a b bb c d", one, some.Text(""), some.Text(""), some.Truth(true), some.Record("")), false},
		{api.Value{Kind: api.Record, Names: []string{"", "a", "c"}, Items: []api.Value{one, one, some.Truth(true)}}, false},
		{some.Set(one, some.Truth(true)), false},
		{one, false},
	} {
		wantValue(t, canon(c.v), of, c.want)
		wantValue(t, some.Set(canon(c.v)), some.TSet(of), c.want)
		wantValue(t, some.Record("z", canon(c.v)), some.TRecord("y? z", num, of), c.want)
	}
	wantValue(t, some.Record(""), some.TRecord(""), true)
	wantValue(t, some.Record("a", one), some.TRecord(""), false)
	nameless := api.Type{Kind: api.TRecord, Attrs: []api.Attr{{Name: "", Type: num}}}
	wantValue(t, api.Value{Kind: api.Record, Names: []string{""}, Items: []api.Value{one}}, nameless, true)
	wantValue(t, some.Record(""), nameless, false)
}

// TestP13_1Wide has as many names as a record may have, and what is wrong at the one of them.
func TestP13_1Wide(t *testing.T) {
	r, of := some.Record(""), some.TRecord("")
	for i := range api.MaxItems {
		name := strconv.Itoa(10000 + i)
		r.Names, r.Items = append(r.Names, name), append(r.Items, one)
		of.Attrs = append(of.Attrs, api.Attr{Name: name, Type: num, Optional: i%2 == 0})
	}
	wantValue(t, r, of, true)
	of.Attrs = append(of.Attrs, api.Attr{Name: "9", Type: num, Optional: true}) // there may be more than a record may have
	wantValue(t, r, of, true)
	for _, place := range []int{0, 1, 2000, 2001, 4094, 4095} {
		less, other := some.Clone(r), some.Clone(r)
		less.Names, less.Items = slices.Delete(less.Names, place, place+1), slices.Delete(less.Items, place, place+1)
		wantValue(t, less, of, place%2 == 0)
		other.Items[place] = some.Text("")
		wantValue(t, other, of, false)
		other.Items[place] = one
		other.Names[place] += "x"
		wantValue(t, other, of, false)
	}
	of.Attrs[4096].Optional = false
	wantValue(t, r, of, false)
}

// TestP13_1Deep has values that are nested as deep as may be, and types that are, and deeper.
func TestP13_1Deep(t *testing.T) {
	for depth := 1; depth <= api.MaxDepth; depth++ {
		v := some.Tower(depth, one)
		wantValue(t, v, some.TypeTower(depth, num), true)
		wantValue(t, v, some.TypeTower(depth, text), false)
		wantValue(t, v, some.TypeTower(depth+1, num), false)
		wantValue(t, some.Tower(depth, some.Set()), some.TypeTower(depth, some.TSet(some.TypeTower(60, num))), true)
		if depth > 1 {
			wantValue(t, v, some.TypeTower(depth-1, num), false)
		}
	}
}

// TestP13_1OtherFields has types with what says nothing of their kinds.
func TestP13_1OtherFields(t *testing.T) {
	for _, of := range []api.Type{never, yes, no, truth, num, text, some.TRef("A"), some.TSet(num), some.TSet(never), some.TRecord("a?", text)} {
		filled := some.CloneType(of)
		if of.Kind != api.TRef {
			filled.Name = "A"
		}
		if of.Kind != api.TSet {
			filled.Elem = []api.Type{num, text}
		}
		if of.Kind != api.TRecord {
			filled.Attrs = some.Attrs("a b", num, num)
		}
		if types.Check(filled) != api.OK {
			t.Fatal(filled)
		}
		for _, v := range values(2, leaves(), "a", "b") {
			wantValue(t, v, filled, ofType(v, of))
		}
	}
}

// TestP13_1Chance has values made by types, and spoilt ones.
func TestP13_1Chance(t *testing.T) {
	s := &source{88172645463325252}
	count := map[bool]int{}
	for range 5000 {
		for _, row := range rows(s.Schema()) {
			of := recordType(row)
			v := s.Value(of)
			wantValue(t, canon(v), of, true)
			s.spoil(&v)
			if c, e := value.Canon(v); e == api.OK {
				want := ofType(c, of)
				count[want]++
				wantValue(t, c, of, want)
			}
		}
	}
	if count[true] < 1000 || count[false] < 1000 {
		t.Error(count)
	}
}

// rows are all rows of attributes of a schema.
func rows(s api.Schema) [][]api.Attr {
	var l [][]api.Attr
	for _, t := range s.Types {
		l = append(l, t.Attrs)
	}
	for _, a := range s.Actions {
		l = append(l, a.Context)
	}
	return l
}

func wantActions(t *testing.T, s api.Schema, want []api.Entity) {
	t.Helper()
	if l := Actions(s); !some.EqualAll(l, want) {
		t.Errorf("Actions(%.300s): %.300s, not %.300s", fmt.Sprint(s), fmt.Sprint(l), fmt.Sprint(want))
	}
}

func TestP13_2Actions(t *testing.T) {
	wantActions(t, api.Schema{}, nil)
	wantActions(t, some.Schema("type A", "type v"), nil)
	wantActions(t, some.Schema("action v"), some.Entities("Action/v"))
	wantActions(t, some.Schema("type A A", "action v all >A <A", "action all"), some.Entities("Action/v Action/all", "Action/all"))
	wantActions(t, some.PlainSchema(), some.Entities("Action/view Action/all Action/read", "Action/read Action/all", "Action/all", "Action/edit Action/all Action/view"))
	wantActions(t, some.Schema("action b", "action a", "action c b a b b", "action Action c"), some.Entities("Action/b", "Action/a", "Action/c Action/b Action/a Action/b Action/b", "Action/Action Action/c")) // just as they are there
	s := api.Schema{Actions: []api.ActionType{{Id: ""}, {Id: "no path", In: []string{"", "\xff"}}, {Id: "\xff", Context: some.Attrs("a", num)}, {Id: "a/b"}}}
	wantActions(t, s, []api.Entity{
		{Uid: api.Uid{Type: "Action"}, Attrs: some.Record("")},
		{Uid: api.Uid{Type: "Action", Id: "no path"}, Parents: []api.Uid{{Type: "Action"}, {Type: "Action", Id: "\xff"}}, Attrs: some.Record("")},
		{Uid: api.Uid{Type: "Action", Id: "\xff"}, Attrs: some.Record("")},
		{Uid: api.Uid{Type: "Action", Id: "a/b"}, Attrs: some.Record("")},
	})
	many := manyActions(api.MaxItems + 1)
	if l := Actions(many); len(l) != api.MaxItems+1 || l[api.MaxItems].Uid != some.Uid("Action/4096") {
		t.Error(len(l))
	}
}

func manyActions(n int) api.Schema {
	var s api.Schema
	for i := range n {
		s.Actions = append(s.Actions, api.ActionType{Id: strconv.Itoa(i)})
	}
	return s
}

// plain are entities that conform to some.PlainSchema: two or more of each type, and the actions ahead of them.
func plain() []api.Entity {
	l := some.Entities("Action/view Action/all Action/read", "Action/read Action/all", "Action/all", "Action/edit Action/all Action/view")
	return append(l,
		some.With("User/a", "User/b Group/a", some.Record("a c", one, some.Set())),
		some.With("User/b", "", some.Record("c b a", some.Set(some.Ref("User", "nobody"), some.Ref("User", "a")), some.Ref("A::B::Doc_1", ""), one)),
		some.Entity("Group/a", "Group/b Org/a"), some.Entity("Group/b", ""), some.Entity("Org/a", ""), some.Entity("Org/", ""),
		some.With("A::B::Doc_1/a", "Org/a Group/b Org/ Org/a", some.Record("owner", some.Record("by at", some.Ref("Org", ""), some.Text("x")))),
		some.With("A::B::Doc_1/", "", some.Record("owner", some.Record("at", some.Text("")))),
	)
}

// at is the place of an entity of a list.
func at(l []api.Entity, name string) int {
	return slices.IndexFunc(l, func(e api.Entity) bool { return e.Uid == some.Uid(name) })
}

// without are entities without one of them.
func without(l []api.Entity, name string) []api.Entity {
	return slices.DeleteFunc(some.CloneAll(l), func(e api.Entity) bool { return e.Uid == some.Uid(name) })
}

// changed is plain with another entity of a name in the place of one, or behind all, if there is none.
func changed(e api.Entity) []api.Entity { return append(without(plain(), name(e.Uid)), e) }

func name(u api.Uid) string { return u.Type + "/" + u.Id }

func TestP13_3Store(t *testing.T) {
	s, l := some.PlainSchema(), plain()
	wantStore(t, s, l, api.OK)
	slices.Reverse(l)
	wantStore(t, s, l, api.OK)
	for _, e := range []api.Entity{
		some.Entity("Action/view", "Action/read Action/all Action/read"), // as entity.Canon tells it
		some.Entity("Org/b", ""), some.Entity("Group/c", "Group/a Org/"), some.Entity("Group/a", ""), some.Entity("Org/view", ""),
		{Uid: some.Uid("Action/all"), Parents: []api.Uid{}, Attrs: api.Value{Kind: api.Record, Text: "what no record has", Names: []string{}, Items: []api.Value{}}},
	} {
		wantStore(t, s, changed(e), api.OK)
	}
	for _, name := range []string{"User/a", "A::B::Doc_1/a", "A::B::Doc_1/"} { // what nobody is in, may be there or not
		wantStore(t, s, without(plain(), name), api.OK)
	}
	wantStore(t, s, plain()[:4], api.OK)
	wantStore(t, api.Schema{}, nil, api.OK)
	wantStore(t, some.Schema("type A"), nil, api.OK)
	wantStore(t, some.Schema("type A A"), some.Entities("A/a A/b", "A/b", "A/c A/a A/b"), api.OK)
	wantStore(t, some.Schema("action v"), some.Entities("Action/v"), api.OK)
	wantStore(t, some.Schema("action b a a", "action a"), some.Entities("Action/b Action/a", "Action/a"), api.OK)
	wantStore(t, some.Schema("action b c a", "action a", "action c"), some.Entities("Action/b Action/a Action/c", "Action/a", "Action/c"), api.OK)
}

func TestP13_3Types(t *testing.T) {
	s := some.PlainSchema()
	for _, typ := range []string{"", "Nobody", "user", "Users", "User ", "A::B", "Doc_1", "view", "action", "Actions", "Action::A", "Action ", "\xff", "org"} {
		wantStore(t, s, append(plain(), some.Entity(typ+"/x", "")), api.ErrConform)
		wantStore(t, s, append([]api.Entity{some.With(typ+"/x", "", some.Record("a c", one, some.Set()))}, plain()...), api.ErrConform)
	}
	wantStore(t, api.Schema{}, some.Entities("A/a"), api.ErrConform)
	wantStore(t, api.Schema{}, some.Entities("/"), api.ErrConform)
	wantStore(t, some.Schema("type A", "action v"), some.Entities("v/a", "Action/v"), api.ErrConform)
}

// TestP13_3Parents has all pairs of types: a parent's is one of In itself, not one above.
func TestP13_3Parents(t *testing.T) {
	s := some.PlainSchema()
	for _, low := range s.Types {
		for _, high := range append(slices.Clone(s.Types), api.EntityType{Name: "Action"}) {
			parent := high.Name + "/a"
			if high.Name == "Action" {
				parent = "Action/all"
			}
			attrs := plain()[at(plain(), low.Name+"/a")].Attrs
			l := append(plain(), some.With(low.Name+"/low", parent, attrs))
			want := api.ErrConform
			if slices.Contains(low.In, high.Name) {
				want = api.OK
			}
			wantStore(t, s, l, want)
			for _, more := range low.In { // behind, and ahead of, one that may be
				l[len(l)-1].Parents = some.Uids(parent + " " + more + "/a")
				wantStore(t, s, l, want)
			}
		}
	}
	if !schema.Above(s, "User", "Org") {
		t.Error("User, Org")
	}
	for _, told := range []string{"A/a A/b", "A/b A/a"} {
		wantStore(t, some.Schema("type A"), append(some.Entities(told), some.Entity(told[4:], "")), api.ErrConform)
	}
}

func TestP13_3Attrs(t *testing.T) {
	s := some.PlainSchema()
	for _, l := range [][]api.Entity{
		changed(some.Entity("User/a", "")),
		changed(some.With("User/a", "", some.Record("a", one))),
		changed(some.With("User/a", "", some.Record("c", some.Set()))),
		changed(some.With("User/a", "", some.Record("a c", one, one))),
		changed(some.With("User/a", "", some.Record("a c", some.Set(), one))),
		changed(some.With("User/a", "", some.Record("a c d", one, some.Set(), one))),
		changed(some.With("User/a", "", some.Record("a b c", one, some.Ref("User", ""), some.Set()))),
		changed(some.With("User/a", "", some.Record("a b c", one, some.Text("A::B::Doc_1"), some.Set()))),
		changed(some.With("User/a", "", some.Record("a c", one, some.Set(some.Ref("User", ""), some.Ref("Group", ""))))),
		changed(some.With("Org/a", "", some.Record("a", one))),
		changed(some.With("A::B::Doc_1/", "", some.Record("owner", some.Record("by", some.Ref("Org", ""))))),
		changed(some.With("A::B::Doc_1/", "", some.Record("owner", some.Record("at by", some.Text(""), some.Ref("User", ""))))),
		changed(some.With("A::B::Doc_1/", "", some.Record("owner", some.Record("at in", some.Text(""), one)))),
		changed(some.With("A::B::Doc_1/", "", some.Record("owner", some.Set()))),
	} {
		wantStore(t, s, l, api.ErrConform)
	}
}

// TestP13_3Actions has actions that aren't there, and such as the schema hasn't.
func TestP13_3Actions(t *testing.T) {
	s := some.PlainSchema()
	wantStore(t, s, without(plain(), "Action/edit"), api.ErrConform)
	wantStore(t, s, plain()[4:], api.ErrConform)
	wantStore(t, s, nil, api.ErrConform)
	wantStore(t, s, plain()[1:3], api.ErrConform)
	for _, e := range []api.Entity{
		some.Entity("Action/", ""), some.Entity("Action/write", ""), some.Entity("Action/View", ""), some.Entity("Action/write", "Action/all"), some.Entity("Action/User", ""), some.Entity("Action/zzz", ""),
		some.Entity("Action/edit", "Action/view"), some.Entity("Action/edit", ""), some.Entity("Action/edit", "Action/all"), some.Entity("Action/edit", "Action/all Action/read"),
		some.Entity("Action/edit", "Action/all Action/view Action/read"), // above it, but not one of its In
		some.Entity("Action/all", "Org/a"), some.Entity("Action/edit", "Action/all Action/view Org/a"),
		some.With("Action/all", "", some.Record("a", one)), some.With("Action/edit", "Action/all Action/view", some.Record("a b", some.Ref("Group", ""), some.Set())),
	} {
		wantStore(t, s, changed(e), api.ErrConform)
		wantStore(t, s, slices.Insert(without(plain(), name(e.Uid)), 0, e), api.ErrConform)
	}
	for i := range s.Actions { // one more, or one less, of the schema's
		less := some.CloneSchema(s)
		less.Actions = slices.Delete(less.Actions, i, i+1)
		wantStore(t, less, plain(), api.ErrConform)
		more := some.CloneSchema(s)
		more.Actions = slices.Insert(more.Actions, i, api.ActionType{Id: "more"})
		wantStore(t, more, plain(), api.ErrConform)
		wantStore(t, more, append(plain(), some.Entity("Action/more", "")), api.OK)
	}
	wantStore(t, some.Schema("action v"), some.Entities("Action/w"), api.ErrConform)
	wantStore(t, some.Schema("action v"), some.Entities("Action/v", "Action/w"), api.ErrConform)
	wantStore(t, api.Schema{}, some.Entities("Action/v"), api.ErrConform)
}

func TestP13_3Many(t *testing.T) {
	s, l := some.Schema("type A A", "action v"), some.Entities("Action/v")
	for i := range api.MaxItems - 1 {
		l = append(l, some.Entity("A/"+strconv.Itoa(i), "A/"+strconv.Itoa(i+1)))
	}
	l[api.MaxItems-1].Parents = nil
	wantStore(t, s, l, api.OK)
	wantStore(t, s, append(slices.Clone(l[:api.MaxItems-1]), some.Entity("B/4094", "")), api.ErrDangling)
	wantStore(t, s, append(slices.Clone(l[1:]), some.Entity("B/4094", "")), api.ErrConform)
	wantStore(t, s, append(slices.Clone(l), some.Entity("A/4095", "")), api.ErrLong)
	wantStore(t, manyActions(api.MaxItems), Actions(manyActions(api.MaxItems)), api.OK)
	wantStore(t, manyActions(api.MaxItems), Actions(manyActions(api.MaxItems-1)), api.ErrConform)
	more := manyActions(api.MaxItems + 1) // not all of them can be there
	wantStore(t, more, Actions(more), api.ErrLong)
	wantStore(t, more, Actions(more)[1:], api.ErrConform)
	wantStore(t, more, nil, api.ErrConform)
}

// canonFaults are entities with one fault each, of which entity.Canon tells that error.
func canonFaults() map[api.Errno][][]api.Entity {
	long := some.Line(api.MaxItems+1, "")
	wide := some.Record("a", some.Set())
	for i := range api.MaxItems + 1 {
		wide.Items[0].Items = append(wide.Items[0].Items, some.Num(int64(i)))
	}
	return map[api.Errno][][]api.Entity{
		api.ErrLong:     {long, {some.With("Org/x", "", wide)}},
		api.ErrTwice:    {some.Entities("Org/x", "Org/x"), some.Entities("Nobody/x", "Nobody/y", "Nobody/x"), {some.With("Org/x", "", some.Record("a a", one, one))}},
		api.ErrArg:      {{some.With("Org/x", "", one)}, {some.With("Org/x", "", some.Set())}, {{Uid: some.Uid("Org/x")}}, {some.With("Org/x", "", some.Record("a b", one))}, {some.With("Org/x", "", some.Record("a", api.Value{}))}},
		api.ErrDeep:     {{some.With("Org/x", "", some.Record("a", some.Tower(50, one)))}},
		api.ErrDangling: {some.Entities("Org/x Org/y"), some.Entities("Org/x User/zzz"), some.Entities("Org/x Action/y")},
		api.ErrCycle:    {some.Entities("Org/x Org/x"), some.Entities("Org/x Org/y", "Org/y Org/x")},
	}
}

// TestP13_3CanonFirst has entity.Canon's errors, by themselves and behind and ahead of what doesn't conform.
func TestP13_3CanonFirst(t *testing.T) {
	s := some.PlainSchema()
	for want, faults := range canonFaults() {
		for _, l := range faults {
			if _, e := entity.Canon(l); e != want {
				t.Fatal(e, want)
			}
			for _, s := range []api.Schema{s, {}, some.Schema("type Org"), some.Schema("action v"), manyActions(api.MaxItems + 1)} {
				wantStore(t, s, l, want)
			}
			wantStore(t, s, append(plain(), l...), want)
			wantStore(t, s, append(slices.Clone(l), plain()...), want)
			wantStore(t, s, append(some.Entities("Nobody/a", "Action/nothing", "Org/b Nobody/a"), l...), want)
			wantStore(t, s, append(slices.Clone(l), some.Entities("Nobody/a", "Action/nothing", "Org/b Nobody/a")...), want)
		}
	}
	wantStore(t, s, without(plain(), "Action/all"), api.ErrDangling)
	wantStore(t, s, changed(some.Entity("Action/all", "Action/edit")), api.ErrCycle)
}

// TestP13_3Chance holds Store against an oracle, of entities made by schemas, and spoilt ones.
func TestP13_3Chance(t *testing.T) {
	s := &source{2463534242}
	count := map[api.Errno]int{}
	for range 20000 {
		made := s.Schema()
		l := s.Entities(made)
		wantStore(t, made, l, api.OK)
		for range 1 + s.Below(2) {
			l = s.spoilAll(l)
		}
		want := stored(made, l)
		count[want]++
		wantStore(t, made, l, want)
	}
	for e, least := range map[api.Errno]int{api.OK: 1000, api.ErrConform: 5000, api.ErrTwice: 300, api.ErrDangling: 300, api.ErrCycle: 300, api.ErrArg: 30, api.ErrDeep: 30} {
		if count[e] < least {
			t.Error(e, count)
		}
	}
}

// asked is a request that conforms to some.PlainSchema.
func asked(principal, action, resource string, context api.Value) api.Request {
	return api.Request{Principal: some.Uid(principal), Action: some.Uid(action), Resource: some.Uid(resource), Context: context}
}

func TestP13_4Request(t *testing.T) {
	s := some.PlainSchema()
	view, edit := some.Record("a", some.Truth(true)), some.Record("b", some.Set(some.Set(some.Text("x")), some.Set()))
	for _, q := range []api.Request{
		asked("User/a", "Action/view", "A::B::Doc_1/a", view),
		asked("Group/nobody", "Action/view", "A::B::Doc_1/", view), // whether there are such entities isn't asked
		asked("User/", "Action/edit", "User/", edit), asked("User/a", "Action/edit", "Org/a", edit), asked("User/a", "Action/edit", "A::B::Doc_1/a", edit),
		asked("User/a", "Action/edit", "Org/a", some.Record("b a", some.Set(), some.Ref("Group", "nobody"))), // its names in any order
		asked("User/a", "Action/view", "A::B::Doc_1/a", api.Value{Kind: api.Record, Text: "what no record has", Names: view.Names, Items: view.Items}),
	} {
		wantRequest(t, s, q, api.OK)
	}
	twice := some.Set(some.Set(some.Text("y"), some.Text("x"), some.Text("y")), some.Set(some.Text("x"), some.Text("y")))
	wantRequest(t, s, asked("User/a", "Action/edit", "Org/a", some.Record("b", twice)), api.OK)
	for _, q := range []api.Request{
		asked("User/a", "action/view", "A::B::Doc_1/a", view), asked("User/a", "User/view", "A::B::Doc_1/a", view), asked("User/a", "/view", "A::B::Doc_1/a", view), asked("User/a", "Action::A/view", "A::B::Doc_1/a", view),
		asked("User/a", "Action/View", "A::B::Doc_1/a", view), asked("User/a", "Action/", "A::B::Doc_1/a", view), asked("User/a", "Action/write", "A::B::Doc_1/a", view), asked("User/a", "Action/User", "A::B::Doc_1/a", view),
		asked("Org/a", "Action/view", "A::B::Doc_1/a", view), asked("user/a", "Action/view", "A::B::Doc_1/a", view), asked("/a", "Action/view", "A::B::Doc_1/a", view), asked("Action/view", "Action/view", "A::B::Doc_1/a", view),
		asked("User/a", "Action/view", "User/a", view), asked("User/a", "Action/view", "Org/a", view), asked("User/a", "Action/view", "A::B/a", view), asked("User/a", "Action/view", "/", view), asked("User/a", "Action/view", "Action/view", view),
		asked("A::B::Doc_1/a", "Action/view", "User/a", view), asked("Group/a", "Action/edit", "User/a", edit), asked("Org/a", "Action/edit", "User/a", edit), // one may be the other one alone
		asked("User/a", "Action/all", "User/a", some.Record("")), asked("User/a", "Action/read", "A::B::Doc_1/a", view), // they are for nobody, though others that are in them are for some
		{},
	} {
		wantRequest(t, s, q, api.ErrConform)
	}
	wantRequest(t, api.Schema{}, asked("User/a", "Action/view", "A::B::Doc_1/a", view), api.ErrConform)
	wantRequest(t, some.Schema("type A", "action v >A"), asked("A/a", "Action/v", "A/a", some.Record("")), api.ErrConform)
	wantRequest(t, some.Schema("type A", "action v <A"), asked("A/a", "Action/v", "A/a", some.Record("")), api.ErrConform)
	wantRequest(t, some.Schema("type A", "action v >A <A"), asked("A/a", "Action/v", "A/a", some.Record("")), api.OK)
	wantRequest(t, api.Schema{Types: []api.EntityType{{Name: "A"}}, Actions: []api.ActionType{{Id: "", Principals: []string{"A"}, Resources: []string{"A"}}}}, asked("A/", "Action/", "A/", some.Record("")), api.OK)
}

func TestP13_4Context(t *testing.T) {
	s := some.PlainSchema()
	for _, context := range []api.Value{
		some.Record(""), some.Record("b", some.Truth(true)), some.Record("a", one), some.Record("a", some.Text("true")), some.Record("a b", some.Truth(true), one), some.Record("a", some.Set(some.Truth(true))),
		some.Set(), some.Set(some.Truth(true)), some.Truth(true), one, some.Text("a"), some.Ref("User", "a"),
	} {
		wantRequest(t, s, asked("User/a", "Action/view", "A::B::Doc_1/a", context), api.ErrConform)
	}
	for _, context := range []api.Value{
		some.Record(""), some.Record("a", some.Ref("Group", "")), some.Record("b", some.Set(some.Text(""))), some.Record("b", some.Set(some.Set(one))), some.Record("a b", some.Ref("User", ""), some.Set()),
		some.Record("a b c", some.Ref("Group", ""), some.Set(), one), some.Record("b", some.Set(some.Set(), one)),
	} {
		wantRequest(t, s, asked("User/a", "Action/edit", "Org/a", context), api.ErrConform)
	}
}

// TestP13_4CanonErrors has value.Canon's errors of contexts: behind what is asked of the names, ahead of what is asked of the type.
func TestP13_4CanonErrors(t *testing.T) {
	s := some.PlainSchema()
	long := some.Set()
	for range api.MaxItems + 1 {
		long.Items = append(long.Items, one)
	}
	for want, contexts := range map[api.Errno][]api.Value{
		api.ErrArg:   {{}, {Kind: 7}, {Kind: -1}, some.Record("a", api.Value{}), some.Record("a b", some.Truth(true)), {Kind: api.Record, Items: []api.Value{one}}, some.Set(api.Value{})},
		api.ErrDeep:  {some.Record("a", some.Tower(50, one)), some.Tower(51, one), some.Tower(1<<10, api.Value{})},
		api.ErrLong:  {some.Record("a", long), long},
		api.ErrTwice: {some.Record("a a", some.Truth(true), some.Truth(true)), some.Record("b", some.Set(some.Record("c c", one, one)))},
	} {
		for _, context := range contexts {
			if _, e := value.Canon(context); e != want {
				t.Fatal(e, want)
			}
			wantRequest(t, s, asked("User/a", "Action/view", "A::B::Doc_1/a", context), want)
			wantRequest(t, s, asked("User/a", "Action/edit", "Org/a", context), want)
			for _, q := range []api.Request{asked("Org/a", "Action/view", "A::B::Doc_1/a", context), asked("User/a", "Action/view", "Org/a", context), asked("User/a", "Action/write", "Org/a", context), asked("User/a", "User/edit", "Org/a", context), asked("User/a", "Action/all", "Org/a", context)} {
				wantRequest(t, s, q, api.ErrConform)
			}
		}
	}
}

// TestP13_4All asks for all requests of few names.
func TestP13_4All(t *testing.T) {
	s := some.PlainSchema()
	typs := []string{"User", "Group", "Org", "A::B::Doc_1", "Action", "Nobody"}
	ids := []string{"view", "read", "all", "edit", "write"}
	contexts := []api.Value{some.Record(""), some.Record("a", some.Truth(false)), some.Record("b", some.Set()), {}}
	count := map[api.Errno]int{}
	for _, principal := range typs {
		for _, typ := range []string{"Action", "User"} {
			for _, id := range ids {
				for _, resource := range typs {
					for _, context := range contexts {
						q := asked(principal+"/a", typ+"/"+id, resource+"/a", context)
						want := requested(s, q)
						count[want]++
						wantRequest(t, s, q, want)
					}
				}
			}
		}
	}
	if count[api.OK] != 2+3 || count[api.ErrArg] != 2+3 {
		t.Error(count)
	}
}

// TestP13_4Chance holds Request against an oracle, of requests made by schemas, and spoilt ones.
func TestP13_4Chance(t *testing.T) {
	s := &source{1181783497276652981}
	count := map[api.Errno]int{}
	for range 30000 {
		made := s.Schema()
		q, found := s.Request(made)
		if found {
			wantRequest(t, made, q, api.OK)
			s.spoilRequest(&q)
		}
		want := requested(made, q)
		count[want]++
		wantRequest(t, made, q, want)
	}
	for e, least := range map[api.Errno]int{api.OK: 1000, api.ErrConform: 5000, api.ErrTwice: 30, api.ErrArg: 30, api.ErrDeep: 30} {
		if count[e] < least {
			t.Error(e, count)
		}
	}
}

// TestP13_5Below has all pairs of types of which one is below the other: what is of the one is of the other.
func TestP13_5Below(t *testing.T) {
	for name, u := range universes() {
		count := 0
		var all [][]api.Value
		for _, of := range u.types {
			all = append(all, made(u.levels, u.leaves, of))
		}
		for i, a := range u.types {
			for _, b := range u.types {
				if types.Below(a, b) {
					count++
					for _, v := range all[i] {
						wantValue(t, v, b, true)
					}
				}
			}
		}
		if count < 5*len(u.types) {
			t.Error(name, count)
		}
	}
}

func TestP13_5ActionsAlone(t *testing.T) {
	for _, s := range []api.Schema{{}, some.PlainSchema(), some.Schema("type A"), some.Schema("action v"), some.Schema("action a", "action b a", "action c b a b"), manyActions(api.MaxItems)} {
		wantStore(t, s, Actions(s), api.OK)
	}
	s := &source{88172645463325252}
	for range 3000 {
		made := s.Schema()
		wantStore(t, made, Actions(made), api.OK)
	}
}

// told is what all functions tell of a schema, entities, a request, a value.
func told(s api.Schema, l []api.Entity, q api.Request) string {
	told := fmt.Sprint(Store(s, l), Request(s, q), Actions(s))
	for _, row := range rows(s) {
		told += fmt.Sprint(Value(q.Context, recordType(row)))
	}
	return told
}

// TestRulesUnchanged calls all functions of what has spare room in its lists, which is to stay as it is, and twice, which is to answer the same.
func TestRulesUnchanged(t *testing.T) {
	s := &source{88172645463325252}
	for range 3000 {
		made := some.CloneSchema(s.Schema())
		l := append(s.spoilAll(s.Entities(made)), some.Entity("Z/last", ""))
		q, _ := s.Request(made)
		s.spoilRequest(&q)
		schemaBefore, before, context := some.CloneSchema(made), some.CloneAll(l), some.Clone(q.Context)
		l = l[:len(l)-1]
		first := told(made, l, q)
		if again := told(made, l, q); again != first {
			t.Fatal(made, l, q, first, again)
		}
		if !some.EqualSchema(made, schemaBefore) || !some.EqualAll(l[:len(l)+1], before) || !some.Equal(q.Context, context) {
			t.Fatal(made, schemaBefore, l, before)
		}
	}
}

// TestRulesNewMemory spoils what Actions tells, one by one: nothing else changes.
func TestRulesNewMemory(t *testing.T) {
	s := some.PlainSchema()
	s.Actions[3].In = s.Actions[0].In // two lists in one memory
	before := some.CloneSchema(s)
	want := some.CloneAll(Actions(s))
	for i := range want {
		l := Actions(s)
		some.SpoilUids(l[i].Parents)
		some.Spoil(l[i].Attrs)
		l[i] = want[i]
		if !some.EqualAll(l, want) || !some.EqualAll(Actions(s), want) || !some.EqualSchema(s, before) {
			t.Error(i, l, s)
		}
	}
	l := Actions(s)
	some.SpoilAll(l)
	wantActions(t, s, want)
	l = Actions(s)
	for i := range s.Actions {
		for j := range s.Actions[i].In {
			s.Actions[i].In[j] = "spoilt"
		}
	}
	if !some.EqualAll(l, want) {
		t.Error(l)
	}
}

// TestRulesNil has empty lists where others are nil.
func TestRulesNil(t *testing.T) {
	s := some.PlainSchema()
	for i := range s.Types {
		s.Types[i].In, s.Types[i].Attrs = append([]string{}, s.Types[i].In...), append([]api.Attr{}, s.Types[i].Attrs...)
	}
	for i := range s.Actions {
		s.Actions[i].In, s.Actions[i].Context = append([]string{}, s.Actions[i].In...), append([]api.Attr{}, s.Actions[i].Context...)
	}
	l := plain()
	for i := range l {
		l[i].Parents = append([]api.Uid{}, l[i].Parents...)
		l[i].Attrs.Names, l[i].Attrs.Items = append([]string{}, l[i].Attrs.Names...), append([]api.Value{}, l[i].Attrs.Items...)
	}
	wantStore(t, s, l, api.OK)
	wantActions(t, s, Actions(some.PlainSchema()))
	empty, none := api.Value{Kind: api.Record, Names: []string{}, Items: []api.Value{}}, api.Type{Kind: api.TRecord, Attrs: []api.Attr{}}
	wantValue(t, empty, some.TRecord(""), true)
	wantValue(t, some.Record(""), none, true)
	wantValue(t, api.Value{Kind: api.Set, Items: []api.Value{}}, some.TSet(num), true)
	wantStore(t, api.Schema{Types: []api.EntityType{}, Actions: []api.ActionType{}}, []api.Entity{}, api.OK)
}

// rings are values and types within themselves, which have no end.
func rings() ([]api.Value, []api.Type) {
	items, attrs, elem := make([]api.Value, 2), make([]api.Attr, 2), make([]api.Type, 1)
	items[0], items[1] = one, api.Value{Kind: api.Set, Items: items}
	named := make([]api.Value, 1)
	named[0] = api.Value{Kind: api.Record, Names: []string{"a"}, Items: named}
	attrs[0], attrs[1] = api.Attr{Name: "a", Type: api.Type{Kind: api.TRecord, Attrs: attrs}}, api.Attr{Name: "b", Type: num, Optional: true}
	elem[0] = api.Type{Kind: api.TSet, Elem: elem, Attrs: attrs}
	return []api.Value{items[1], named[0], some.Record("a", named[0]), some.Record("a", items[1])}, []api.Type{elem[0], attrs[0].Type, some.TSet(attrs[0].Type)}
}

// TestRulesEnds has what may not be: some answer is told of it.
func TestRulesEnds(t *testing.T) {
	vs, ts := rings()
	vs = append(vs, values(2, leaves(), "a")...)
	vs = append(vs, api.Value{}, api.Value{Kind: math.MinInt}, some.Record("a b", one), some.Record("a", one, one), some.Record("a a", one, one), some.Tower(1<<16, one), some.Tower(50, some.Set()), some.Set(some.Num(2), one, one))
	for kind := -1; kind <= 9; kind++ {
		ts = append(ts, api.Type{Kind: kind}, api.Type{Kind: kind, Elem: []api.Type{num, text}, Attrs: some.Attrs("b a a", num, text, num)}, some.TSet(api.Type{Kind: kind}), some.TRecord("a", api.Type{Kind: kind}))
	}
	ts = append(ts, some.TypeTower(1<<16, num), api.Type{Kind: math.MaxInt})
	for _, v := range vs {
		for _, of := range ts {
			Value(v, of)
			s := some.Schema("type User", "action v >User <User")
			s.Types[0].Attrs, s.Actions[0].Context = some.Attrs("a", of), some.Attrs("a", of)
			Store(s, append(some.Entities("Action/v"), some.With("User/a", "", some.Record("a", v)), some.With("User/b", "", v)))
			Request(s, asked("User/a", "Action/v", "User/b", some.Record("a", v)))
			Request(s, asked("User/a", "Action/v", "User/b", v))
		}
	}
	for _, s := range []api.Schema{
		some.Schema("type A A B", "type A", "type Action A", "action v", "action v w"), some.Schema("action v v"), some.Schema("action v w", "action w v"), some.Schema("type Action Action", "action v >Action <Action"),
	} {
		l := Actions(s)
		for _, l := range [][]api.Entity{nil, l, some.Entities("A/a", "Action/v"), plain(), some.Entities("A/a", "Action/v Action/w", "Action/w")} {
			Store(s, l)
		}
		Request(s, asked("Action/v", "Action/v", "Action/v", some.Record("")))
	}
}
