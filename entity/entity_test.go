package entity

import (
	"fmt"
	"math"
	"math/rand"
	"slices"
	"strings"
	"testing"

	"chamberlain/api"
	"chamberlain/some"
)

// textOrder is the order of texts by the document's words: an oracle.
func textOrder(a, b string) int {
	for i := range min(len(a), len(b)) {
		if a[i] != b[i] {
			return sign(int(a[i]) - int(b[i]))
		}
	}
	return sign(len(a) - len(b))
}

func sign(n int) int { return max(-1, min(1, n)) }

func nameOrder(a, b api.Uid) int {
	if a.Type != b.Type {
		return textOrder(a.Type, b.Type)
	}
	return textOrder(a.Id, b.Id)
}

// first is the place of the first entity of a name, by the document's words; -1: there is none.
func first(l []api.Entity, name api.Uid) int {
	for i, e := range l {
		if e.Uid == name {
			return i
		}
	}
	return -1
}

// round is Round by the document's words, of a short list: an oracle that goes all ways, from each entity, step by step.
func round(l []api.Entity) bool {
	for i, e := range l {
		if first(l, e.Uid) != i {
			continue
		}
		reached := e.Parents
		for range l { // no way to a name is longer than the list, unless it comes to some name twice
			if slices.Contains(reached, e.Uid) {
				return true
			}
			reached = stepOn(l, reached)
		}
	}
	return false
}

// stepOn are the names one step beyond those that are told, each one once.
func stepOn(l []api.Entity, names []api.Uid) []api.Uid {
	var beyond []api.Uid
	for _, name := range names {
		if at := first(l, name); at >= 0 {
			beyond = append(beyond, l[at].Parents...)
		}
	}
	slices.SortFunc(beyond, nameOrder)
	return slices.Compact(beyond)
}

func wantRound(t *testing.T, l []api.Entity, want bool) {
	t.Helper()
	for range 3 { // a map's order is another one each time
		if Round(l) != want {
			t.Errorf("Round(%.300v): %t", l, !want)
		}
	}
}

func wantError(t *testing.T, what string, l []api.Entity, want api.Errno) {
	t.Helper()
	if c, e := Canon(l); len(c) != 0 || e != want {
		t.Errorf("Canon of %s: %.300v %v, not %v", what, c, e, want)
	}
}

func wantCanon(t *testing.T, l, want []api.Entity) {
	t.Helper()
	if c, e := Canon(l); !some.EqualAll(c, want) || e != api.OK {
		t.Errorf("Canon(%.300v): %.300v %v, not %.300v", l, c, e, want)
	}
}

// TestP5_1Order has names that rise.
func TestP5_1Order(t *testing.T) {
	rising := []api.Uid{
		{}, {Id: "\x00"}, {Id: "a"}, {Id: "z"}, {Id: "\xff"},
		{Type: "\x00"}, {Type: "\x00", Id: "a"},
		{Type: "A"}, {Type: "A::B"}, {Type: "B", Id: "a"}, {Type: "U", Id: ""}, {Type: "U", Id: "10"}, {Type: "U", Id: "9"},
		{Type: "U", Id: "B"}, {Type: "U", Id: "a"}, {Type: "U", Id: "a\x00"}, {Type: "U", Id: "aa"}, {Type: "U", Id: "ab"}, {Type: "U", Id: "b"},
		{Type: "U", Id: "é"}, {Type: "U", Id: "\uff5e"}, {Type: "U", Id: "\U00010000"}, {Type: "U", Id: "\xff"},
		{Type: "U\x00", Id: ""}, {Type: "U::A", Id: "a"}, {Type: "Ua", Id: ""}, {Type: "Ua", Id: "b"}, {Type: "Uab", Id: "a"},
		{Type: "a", Id: "bc"}, {Type: "ab", Id: "c"}, {Type: "abc", Id: ""},
		{Type: "b", Id: "z"}, {Type: "z", Id: "b"}, {Type: "é", Id: "a"}, {Type: "\xff", Id: "\xff"},
	}
	for i, a := range rising {
		for j, b := range rising {
			want := 0
			if i < j {
				want = -1
			} else if i > j {
				want = 1
			}
			if o := Order(a, b); o != want {
				t.Errorf("Order(%q, %q): %d", a, b, o)
			}
		}
	}
}

// TestP5_1OrderPairs asks for all pairs of short names, and of those that differ in one byte.
func TestP5_1OrderPairs(t *testing.T) {
	texts := []string{"", "a", "b", "A", "\x00", "\xff", "ab", "ba", "aa", "a\x00", "a\xff", "aab", "aaa"}
	var l []api.Uid
	for _, typ := range texts {
		for _, id := range texts {
			l = append(l, api.Uid{Type: typ, Id: id})
		}
	}
	for i := range 256 {
		c := string([]byte{byte(i)})
		l = append(l, api.Uid{Type: c, Id: "a"}, api.Uid{Type: "a", Id: c}, api.Uid{Type: "a", Id: "a" + c})
	}
	for _, a := range l {
		for _, b := range l {
			if o := Order(a, b); o != nameOrder(a, b) {
				t.Fatalf("Order(%q, %q): %d", a, b, o)
			}
		}
	}
}

func TestP5_1OrderLong(t *testing.T) {
	long := strings.Repeat("x", 1<<20)
	for _, c := range []struct {
		a, b api.Uid
		want int
	}{
		{api.Uid{Type: long, Id: long}, api.Uid{Type: long, Id: long}, 0},
		{api.Uid{Type: long + "a", Id: "b"}, api.Uid{Type: long + "b", Id: "a"}, -1},
		{api.Uid{Type: long, Id: "b"}, api.Uid{Type: long + "b", Id: "a"}, -1},
		{api.Uid{Type: long, Id: long + "b"}, api.Uid{Type: long, Id: long + "a"}, 1},
		{api.Uid{Type: long, Id: long + "b"}, api.Uid{Type: long, Id: long}, 1},
	} {
		if o := Order(c.a, c.b); o != c.want {
			t.Errorf("Order(%.9q.., %.9q..): %d, not %d", c.a.Type, c.b.Type, o, c.want)
		}
	}
}

func TestP5_1Round(t *testing.T) {
	for _, c := range []struct {
		l    []api.Entity
		want bool
	}{
		{nil, false},
		{[]api.Entity{}, false},
		{[]api.Entity{{}}, false},
		{[]api.Entity{{Parents: []api.Uid{{}}}}, true}, // empty texts are a name too
		{some.Entities("U/a"), false},
		{some.Entities("U/a U/a"), true},
		{some.Entities("U/a U/b", "U/b"), false},
		{some.Entities("U/a", "U/b U/a"), false},
		{some.Entities("U/a U/b", "U/b U/a"), true}, // as the document's example
		{some.Entities("U/a U/b", "U/b U/b"), true},
		{some.Entities("U/a U/b U/b", "U/b"), false},
		{some.Entities("U/a U/b U/b U/b", "U/b U/a U/a"), true},
		{some.Entities("U/a U/b", "U/b U/c", "U/c"), false},
		{some.Entities("U/a U/b", "U/b U/c", "U/c U/a"), true},
		{some.Entities("U/c U/b", "U/b U/a", "U/a U/c"), true},
		{some.Entities("U/a U/b", "U/b U/c", "U/c U/b"), true}, // a way into a round is none itself
		{some.Entities("U/a", "U/b", "U/c", "U/d U/c", "U/e U/e", "U/f"), true},
		{some.Entities("U/a U/b U/c", "U/b U/d", "U/c U/d", "U/d"), false},
		{some.Entities("U/a U/b U/c", "U/b U/d", "U/c U/d", "U/d U/e", "U/e"), false},
		{some.Entities("U/a U/b U/c", "U/b U/d", "U/c U/d", "U/d U/a"), true},
		{some.Entities("U/a U/c U/b", "U/b", "U/c U/b", "U/d U/a U/b U/c"), false},
		{some.Entities("U/a U/c U/b", "U/b U/d", "U/c U/b", "U/d U/c"), true},
		{some.Entities("U/a", "U/b U/a", "U/c U/a", "U/d U/a"), false},
		{some.Entities("U/a U/b", "U/b U/a", "U/c U/d", "U/d U/c"), true},
		{some.Entities("U/a V/a", "V/a"), false}, // a name is its Type and its Id
		{some.Entities("U/a V/a", "V/a U/b", "U/b"), false},
		{some.Entities("U/a U/b", "V/a U/a", "U/b V/b", "V/b"), false},
		{some.Entities("U/a V/a", "V/a U/a"), true},
		{some.Entities("U/ab Ua/b"), false},
		{some.Entities("U/ab Ua/b", "Ua/b"), false},
	} {
		wantRound(t, c.l, c.want)
	}
}

// TestP5_1RoundNotThere has parents that aren't in the list: no way leads on from them.
func TestP5_1RoundNotThere(t *testing.T) {
	for _, c := range []struct {
		l    []api.Entity
		want bool
	}{
		{some.Entities("U/a U/b"), false},
		{some.Entities("U/a U/b U/b U/c"), false},
		{some.Entities("U/a V/a"), false},
		{some.Entities("U/a U/A"), false},
		{some.Entities("U/a U/b", "U/c U/a U/b"), false},
		{some.Entities("U/a U/b", "U/c U/b"), false},
		{some.Entities("U/a U/b U/a"), true},
		{some.Entities("U/a U/x U/b", "U/b U/y U/a U/x"), true},
		{some.Entities("U/a U/x", "U/b U/x U/c", "U/c U/b"), true},
		{some.Entities("U/a U/x", "U/b U/x", "U/c U/y", "U/d U/d"), true},
	} {
		wantRound(t, c.l, c.want)
	}
}

// TestP5_1RoundFirst has several entities of one name: the first one alone is gone from, and to.
func TestP5_1RoundFirst(t *testing.T) {
	for _, c := range []struct {
		l    []api.Entity
		want bool
	}{
		{some.Entities("U/a", "U/a U/a"), false},
		{some.Entities("U/a U/a", "U/a"), true},
		{some.Entities("U/a", "U/a"), false},
		{some.Entities("U/a U/b", "U/a U/a", "U/b"), false},
		{some.Entities("U/a U/b", "U/b", "U/b U/a"), false},
		{some.Entities("U/a U/b", "U/b U/a", "U/b"), true},
		{some.Entities("U/b", "U/a U/b", "U/b U/a"), false},
		{some.Entities("U/b U/a", "U/a U/b", "U/b"), true},
		{some.Entities("U/a", "U/a U/b", "U/b U/a"), false},
		{some.Entities("U/a", "U/b U/a", "U/a U/b", "U/a U/a", "U/b U/b"), false},
		{some.Entities("U/b", "U/b U/a", "U/a U/b", "U/a"), false},
		{some.Entities("U/a U/b", "U/b U/c", "U/c", "U/c U/a", "U/a U/a"), false},
		{some.Entities("U/a U/b", "U/b U/c", "U/c U/a", "U/c", "U/b", "U/a"), true},
	} {
		wantRound(t, c.l, c.want)
	}
}

// TestP5_1RoundAttrs has attributes that may not be: Round doesn't ask for them.
func TestP5_1RoundAttrs(t *testing.T) {
	for _, attrs := range []api.Value{{}, some.Num(1), some.Set(some.Ref("U", "a")), some.Record("a", some.Ref("U", "a")), some.Record("a")} {
		wantRound(t, []api.Entity{some.With("U/a", "", attrs)}, false)
		wantRound(t, []api.Entity{some.With("U/a", "U/b", attrs), some.With("U/b", "", attrs)}, false)
		wantRound(t, []api.Entity{some.With("U/a", "U/b", attrs), some.With("U/b", "U/a", attrs)}, true)
	}
}

// TestP5_1RoundAllShort asks for all lists of up to three entities of three names.
func TestP5_1RoundAllShort(t *testing.T) {
	var pieces []api.Entity
	for _, name := range []string{"U/a", "U/b", "V/a"} {
		for _, parents := range []string{"", "U/a", "U/b", "V/a", "U/a U/b", "U/b V/a", "V/a U/a", "V/a U/b U/a", "U/b U/b"} {
			pieces = append(pieces, some.Entity(name, parents))
		}
	}
	for _, l := range some.Lists(3, pieces) {
		if Round(l) != round(l) {
			t.Fatalf("Round(%v): %t", l, !round(l))
		}
	}
}

// chance are up to ten entities, some of one name, with parents some of which aren't there.
func chance(r *rand.Rand) []api.Entity {
	names := some.Uids("U/a U/b U/c U/d V/a V/b V/c V/d W/a W/b")
	var l []api.Entity
	for range r.Intn(11) {
		e := api.Entity{Uid: names[r.Intn(len(names))], Attrs: some.Record("")}
		for range r.Intn(3) {
			e.Parents = append(e.Parents, names[r.Intn(len(names))])
		}
		l = append(l, e)
	}
	return l
}

func TestP5_1RoundChance(t *testing.T) {
	r := rand.New(rand.NewSource(5))
	rounds := 0
	for range 20000 {
		l := chance(r)
		if Round(l) != round(l) {
			t.Fatalf("Round(%v): %t", l, !round(l))
		}
		if round(l) {
			rounds++
		}
	}
	if rounds < 5000 || rounds > 15000 {
		t.Error("too few of one sort:", rounds)
	}
}

// TestP5_1RoundLong has long ways, and many: more entities than Canon takes.
func TestP5_1RoundLong(t *testing.T) {
	for _, n := range []int{api.MaxItems, api.MaxItems + 1, 1 << 15} {
		wantRound(t, some.Line(n, ""), false)
		wantRound(t, some.Line(n, "V/a"), false)
		wantRound(t, some.Line(n, "U/0"), true)
		l := some.Line(n, fmt.Sprintf("U/%d", n-2))
		wantRound(t, l, true)
		slices.Reverse(l)
		wantRound(t, l, true)
	}
	if n := 1 << 17; Round(some.Line(n, "")) || !Round(some.Line(n, "U/0")) {
		t.Error("a line of 2^17")
	}
	l := some.Ladder(2000)
	wantRound(t, l, false)
	l[len(l)-1].Parents = some.Uids("V/1000")
	wantRound(t, l, true)
}

func TestP5_2Canon(t *testing.T) {
	for _, c := range []struct{ l, want []api.Entity }{
		{nil, nil},
		{[]api.Entity{}, nil},
		{some.Entities("U/a"), some.Entities("U/a")},
		{[]api.Entity{{Attrs: some.Record("")}}, []api.Entity{{Attrs: some.Record("")}}}, // a name may be any
		{[]api.Entity{{Uid: api.Uid{Type: "1 \n", Id: "\xff/"}, Attrs: some.Record("")}}, []api.Entity{{Uid: api.Uid{Type: "1 \n", Id: "\xff/"}, Attrs: some.Record("")}}},
		{some.Entities("U/a U/b", "U/b"), some.Entities("U/a U/b", "U/b")},
		{some.Entities("U/b", "U/a U/b"), some.Entities("U/a U/b", "U/b")},
		{some.Entities("U/b U/a", "U/a"), some.Entities("U/a", "U/b U/a")},
		{some.Entities("U/b", "U/a U/b U/b"), some.Entities("U/a U/b", "U/b")},
		{some.Entities("V/a", "U/b", "U/a"), some.Entities("U/a", "U/b", "V/a")},
		{some.Entities("U/c", "U/b", "U/a U/c U/b U/c U/b U/c"), some.Entities("U/a U/b U/c", "U/b", "U/c")},
		{some.Entities("U/a V/a V/b U/c U/b", "V/b", "V/a", "U/b", "U/c"), some.Entities("U/a U/b U/c V/a V/b", "U/b", "U/c", "V/a", "V/b")},
		{some.Entities("Ua/b U/z", "U/z", "U/ab Ua/b"), some.Entities("U/ab Ua/b", "U/z", "Ua/b U/z")},
		{some.Entities("U/9", "U/10 U/9", "U/1 U/9 U/10"), some.Entities("U/1 U/10 U/9", "U/10 U/9", "U/9")},
		{some.Entities("U/ab", "U/a", "U/b", "U/A", "U/"), some.Entities("U/", "U/A", "U/a", "U/ab", "U/b")},
		{some.Entities("U/a", "V/a", "A/a V/a U/a"), some.Entities("A/a U/a V/a", "U/a", "V/a")},
		{some.Entities("A::B/a", "A/a A::B/a", "A_/a A/a"), some.Entities("A/a A::B/a", "A::B/a", "A_/a A/a")},
		{some.Entities("U/d", "U/b U/d", "U/c U/d", "U/a U/c U/b"), some.Entities("U/a U/b U/c", "U/b U/d", "U/c U/d", "U/d")},
	} {
		wantCanon(t, c.l, c.want)
	}
}

// TestP5_2Attrs has attributes that aren't as they must be yet.
func TestP5_2Attrs(t *testing.T) {
	other := some.Record("a", some.Num(1)) // what a record doesn't have
	other.Bool, other.Int, other.Text, other.Uid = true, 7, "x", some.Uid("U/a")
	for _, c := range []struct{ attrs, want api.Value }{
		{some.Record(""), some.Record("")},
		{some.Record("a", some.Num(1)), some.Record("a", some.Num(1))},
		{some.Record("b a", some.Num(1), some.Num(2)), some.Record("a b", some.Num(2), some.Num(1))},
		{some.Record("a", some.Set(some.Num(2), some.Num(1), some.Num(2))), some.Record("a", some.Set(some.Num(1), some.Num(2)))},
		{some.Record("a", some.Record("z b", some.Text("x"), some.Set())), some.Record("a", some.Record("b z", some.Set(), some.Text("x")))},
		{some.Record("a", some.Ref("U", "z")), some.Record("a", some.Ref("U", "z"))}, // a Ref needs no entity
		{other, some.Record("a", some.Num(1))},
		{some.Record("a", other), some.Record("a", some.Record("a", some.Num(1)))},
		{some.Tower(49, some.Num(1)), some.Tower(49, some.Num(1))},
	} {
		wantCanon(t, []api.Entity{some.With("U/a", "", c.attrs)}, []api.Entity{some.With("U/a", "", c.want)})
		wantCanon(t, []api.Entity{some.With("U/b", "U/a", some.Record("x", some.Truth(true))), some.With("U/a", "", c.attrs)},
			[]api.Entity{some.With("U/a", "", c.want), some.With("U/b", "U/a", some.Record("x", some.Truth(true)))})
	}
}

// TestP5_2AttrsErrors has attributes that may not be: no records, and records of which value.Canon tells an error.
func TestP5_2AttrsErrors(t *testing.T) {
	for name, c := range faults() {
		wantError(t, name, []api.Entity{some.With("U/a", "", c.attrs)}, c.want)
		wantError(t, name+", behind a good one", []api.Entity{some.Entity("U/b", ""), some.With("U/a", "U/b", c.attrs)}, c.want)
		wantError(t, name+", ahead of a good one", []api.Entity{some.With("U/a", "U/b", c.attrs), some.Entity("U/b", "")}, c.want)
	}
	for kind := -2; kind <= 9; kind++ {
		if kind != api.Record {
			wantError(t, fmt.Sprint("kind ", kind), []api.Entity{some.With("U/a", "", api.Value{Kind: kind})}, api.ErrArg)
		}
	}
	wantCanon(t, []api.Entity{some.With("U/a", "", deep(api.MaxDepth))}, []api.Entity{some.With("U/a", "", deep(api.MaxDepth))})
}

// deep is a record of that Depth.
func deep(depth int) api.Value { return some.Record("a", some.Tower(depth-1, some.Num(1))) }

// many is a record of n numbers.
func many(n int) api.Value {
	v := api.Value{Kind: api.Record}
	for i := range n {
		v.Names = append(v.Names, fmt.Sprintf("%05d", i))
		v.Items = append(v.Items, some.Num(int64(i)))
	}
	return v
}

// fault are attributes that may not be, and what is told of them.
type fault struct {
	attrs api.Value
	want  api.Errno
}

func faults() map[string]fault {
	within := some.Record("a", api.Value{})
	within.Items[0] = within
	around := some.Set(api.Value{})
	around.Items[0] = around
	return map[string]fault{
		"nothing":                      {api.Value{}, api.ErrArg},
		"a set":                        {some.Set(), api.ErrArg},
		"a set with names":             {api.Value{Kind: api.Set, Names: []string{"a"}, Items: []api.Value{some.Num(1)}}, api.ErrArg},
		"a number":                     {some.Num(1), api.ErrArg},
		"a text":                       {some.Text("a"), api.ErrArg},
		"a truth":                      {some.Truth(true), api.ErrArg},
		"a ref":                        {some.Ref("U", "a"), api.ErrArg},
		"kind 7":                       {api.Value{Kind: 7}, api.ErrArg},
		"kind -1":                      {api.Value{Kind: -1}, api.ErrArg},
		"a name too much":              {some.Record("a"), api.ErrArg},
		"an item too much":             {some.Record("", some.Num(1)), api.ErrArg},
		"an item without kind":         {some.Record("a", api.Value{}), api.ErrArg},
		"an item's item":               {some.Record("a", some.Set(some.Num(1), api.Value{Kind: 9})), api.ErrArg},
		"a name twice":                 {some.Record("a a", some.Num(1), some.Num(1)), api.ErrTwice},
		"an item's name twice":         {some.Record("b", some.Record("a c a", some.Num(1), some.Num(2), some.Num(1))), api.ErrTwice},
		"51 deep":                      {deep(api.MaxDepth + 1), api.ErrDeep},
		"2^16 deep":                    {deep(1 << 16), api.ErrDeep},
		"51 deep, an item without one": {some.Record("a b", api.Value{}, deep(api.MaxDepth)), api.ErrDeep},
		"a record within itself":       {within, api.ErrDeep},
		"a set within itself":          {around, api.ErrArg}, // it is no record, however deep
		"a set 51 deep":                {some.Set(deep(api.MaxDepth)), api.ErrArg},
		"4097 names":                   {many(api.MaxItems + 1), api.ErrLong},
		"an item of 4097":              {some.Record("a", many(api.MaxItems+1)), api.ErrLong},
	}
}

// TestP5_2Long has as many entities as may be, and one more: that is told ahead of all else.
func TestP5_2Long(t *testing.T) {
	l := some.Entities("U/9999")
	for i := range api.MaxItems - 1 {
		l = append(l, some.Entity(fmt.Sprintf("U/%04d", i), fmt.Sprintf("U/%04d U/9999", (i+1)%(api.MaxItems-1))))
	}
	l[api.MaxItems-1].Parents = some.Uids("U/9999")
	wantCanon(t, l, append(slices.Clone(l[1:]), l[0]))
	wantError(t, "4097", append(slices.Clone(l), some.Entity("V/a", "")), api.ErrLong)
	wantError(t, "4097, one twice", append(slices.Clone(l), l[0]), api.ErrLong)
	wantError(t, "4097 of one name, with all faults", slices.Repeat([]api.Entity{{Parents: some.Uids("U/a U/x")}}, api.MaxItems+1), api.ErrLong)
	wantError(t, "2^17", some.Line(1<<17, "U/0"), api.ErrLong)
	wantError(t, "4096, one twice", append(slices.Clone(l[1:]), l[1]), api.ErrTwice)
	l[api.MaxItems-1].Parents = some.Uids("U/0000")
	wantError(t, "4096 round", l, api.ErrCycle)
	slices.Reverse(l)
	wantError(t, "4096 round", l, api.ErrCycle)
	l[17].Parents = some.Uids("U/0001 U/4095")
	wantError(t, "4096, one parent of which isn't there", l, api.ErrDangling)
}

// TestP5_2ManyParents has an entity with more Parents than there may be entities.
func TestP5_2ManyParents(t *testing.T) {
	wantCanon(t, []api.Entity{
		{Uid: some.Uid("U/c"), Parents: slices.Repeat(some.Uids("U/b U/a"), api.MaxItems), Attrs: some.Record("")}, some.Entity("U/a", ""), some.Entity("U/b", ""),
	}, some.Entities("U/a", "U/b", "U/c U/a U/b"))
	l := some.Line(api.MaxItems-1, "")
	above := api.Entity{Uid: some.Uid("A/a"), Attrs: some.Record("")}
	for _, e := range l {
		above.Parents = append(above.Parents, e.Uid, e.Uid)
	}
	c, e := Canon(append(l, above))
	if e != api.OK || len(c) != api.MaxItems || c[0].Uid != above.Uid || len(c[0].Parents) != api.MaxItems-1 || !slices.IsSortedFunc(c[0].Parents, nameOrder) {
		t.Error(len(c), e)
	}
}

func TestP5_2Twice(t *testing.T) {
	for _, l := range [][]api.Entity{
		some.Entities("U/a", "U/a"),
		some.Entities("U/a", "U/b", "U/a"),
		some.Entities("U/b", "U/a", "U/c", "U/a", "U/d"),
		some.Entities("U/a", "U/a", "U/a"),
		some.Entities("U/a U/b", "U/b", "U/a U/b"),
		{{}, {}},
		{some.With("U/a", "", some.Record("a", some.Num(1))), some.With("U/a", "", some.Record("b", some.Num(1)))},
		some.Entities("U/a U/x", "U/a"),            // ahead of a parent that isn't there
		some.Entities("U/x U/y", "U/a", "U/a"),     // of whatever entity
		some.Entities("U/a U/a", "U/a"),            // ahead of a round
		some.Entities("U/a", "U/a U/b", "U/b U/a"), // of whatever entity
		{some.With("U/a", "", api.Value{}), some.With("U/b", "", some.Num(1)), some.With("U/b", "", some.Record("a a", some.Num(1), some.Num(1)))},
	} {
		wantError(t, fmt.Sprint(l), l, api.ErrTwice)
	}
	wantCanon(t, some.Entities("V/a", "U/b", "U/a", "V/b"), some.Entities("U/a", "U/b", "V/a", "V/b")) // a name is its Type and its Id
	wantCanon(t, some.Entities("U/ab", "Ua/b", "Uab/"), some.Entities("U/ab", "Ua/b", "Uab/"))
	wantCanon(t, some.Entities("U/a", "U/A", "u/a"), some.Entities("U/A", "U/a", "u/a"))
}

func TestP5_2Dangling(t *testing.T) {
	for _, l := range [][]api.Entity{
		some.Entities("U/a U/b"),
		some.Entities("U/a U/a U/b"),
		some.Entities("U/a U/b U/c", "U/b"),
		some.Entities("U/a U/b U/c", "U/c"),
		some.Entities("U/a", "U/b", "U/c U/a U/b U/d"),
		some.Entities("U/a V/a"), // a name is its Type and its Id
		some.Entities("U/a V/b", "U/b", "V/a"),
		some.Entities("U/a U/B", "U/b"),
		some.Entities("U/ab Ua/b"),
		some.Entities("U/a U/", "U/b"),
		some.Entities("U/a U/a U/x"), // ahead of a round
		some.Entities("U/a U/b", "U/b U/a", "U/c U/x"),
		{{Attrs: some.Record(""), Parents: some.Uids("U/a")}},
		{{Attrs: some.Record("a", some.Ref("U", "b")), Parents: some.Uids("U/b")}},
	} {
		wantError(t, fmt.Sprint(l), l, api.ErrDangling)
	}
}

func TestP5_2Cycle(t *testing.T) {
	for _, l := range [][]api.Entity{
		some.Entities("U/a U/a"),
		some.Entities("U/a U/b", "U/b U/a"), // as the document's example
		some.Entities("U/a", "U/b U/c U/a", "U/c U/d", "U/d U/a U/b"),
		some.Entities("U/a U/b", "U/b U/c", "U/c U/b"),
		some.Entities("V/a U/a", "U/a V/a"),
		{{Parents: []api.Uid{{}}, Attrs: some.Record("")}},
	} {
		wantError(t, fmt.Sprint(l), l, api.ErrCycle)
	}
}

// TestP5_2EntityByEntity has faults in two entities: the first one's is told, and of one entity's the one of its Attrs.
func TestP5_2EntityByEntity(t *testing.T) {
	for name, f := range faults() {
		for other, g := range faults() {
			wantError(t, name+" ahead of "+other, []api.Entity{some.With("U/a", "U/a", f.attrs), some.With("U/b", "U/b", g.attrs)}, f.want)
		}
		wantError(t, name+", and a parent that isn't there", []api.Entity{some.With("U/a", "U/x", f.attrs)}, f.want)
		wantError(t, name+" ahead of a parent that isn't there", []api.Entity{some.With("U/b", "", f.attrs), some.Entity("U/a", "U/x")}, f.want)
		wantError(t, name+" behind a parent that isn't there", []api.Entity{some.Entity("U/b", "U/x"), some.With("U/a", "", f.attrs)}, api.ErrDangling)
		wantError(t, name+", behind a round", []api.Entity{some.Entity("U/b", "U/b"), some.With("U/a", "U/b", f.attrs)}, f.want)
		wantError(t, name+", round", []api.Entity{some.With("U/b", "U/a", f.attrs), some.With("U/a", "U/b", f.attrs)}, f.want)
	}
}

// canonical is Canon by the document's words, of entities whose Attrs are without error as they are: an oracle.
func canonical(l []api.Entity) ([]api.Entity, api.Errno) {
	for i, e := range l {
		if first(l, e.Uid) != i {
			return nil, api.ErrTwice
		}
	}
	for _, e := range l {
		if e.Attrs.Kind != api.Record {
			return nil, api.ErrArg
		}
		if len(e.Attrs.Names) == 2 {
			return nil, api.ErrTwice
		}
		for _, name := range e.Parents {
			if first(l, name) < 0 {
				return nil, api.ErrDangling
			}
		}
	}
	if round(l) {
		return nil, api.ErrCycle
	}
	var rising []api.Entity
	for _, name := range risingNames(some.Uids("U/a U/b V/a"), l) {
		e := l[first(l, name)]
		var above []api.Entity
		for _, parent := range e.Parents {
			above = append(above, l[first(l, parent)])
		}
		rising = append(rising, api.Entity{Uid: name, Parents: risingNames(some.Uids("U/a U/b V/a"), above), Attrs: e.Attrs})
	}
	return rising, api.OK
}

// risingNames are those of the names, which rise, that entities have.
func risingNames(names []api.Uid, l []api.Entity) []api.Uid {
	return slices.DeleteFunc(names, func(name api.Uid) bool { return first(l, name) < 0 })
}

// TestP5_2AllShort asks for all lists of up to three entities of three names, with and without faults.
func TestP5_2AllShort(t *testing.T) {
	var pieces []api.Entity
	for _, name := range []string{"V/a", "U/b", "U/a"} {
		for _, parents := range []string{"", "U/a", "U/b", "V/a", "U/b U/a U/b", "V/a U/a"} {
			pieces = append(pieces, some.Entity(name, parents))
		}
		pieces = append(pieces, some.With(name, "", some.Record("a", some.Num(1))), some.With(name, "U/a", some.Num(1)), some.With(name, "", some.Record("a a", some.Num(1), some.Num(1))))
	}
	told := map[api.Errno]int{}
	for _, l := range some.Lists(3, pieces) {
		want, wanted := canonical(l)
		told[wanted]++
		if c, e := Canon(l); e != wanted || !some.EqualAll(c, want) {
			t.Fatalf("Canon(%v): %v %v, not %v %v", l, c, e, want, wanted)
		}
	}
	if len(told) != 5 {
		t.Error("some errors weren't asked for:", told)
	}
}

// good are entities that may be, in no order, with parents and attributes in no order.
func good(r *rand.Rand) []api.Entity {
	var l []api.Entity
	for i := range r.Intn(12) {
		e := api.Entity{Uid: api.Uid{Type: []string{"U", "V", "A::B"}[r.Intn(3)], Id: fmt.Sprint(i * 7 % 12)}}
		for range r.Intn(5) {
			if i > 0 {
				e.Parents = append(e.Parents, l[r.Intn(i)].Uid)
			}
		}
		e.Attrs = some.Record("b a", some.Set(some.Num(int64(r.Intn(3))), some.Num(1), some.Truth(true)), some.Num(int64(i)))
		l = append(l, e)
	}
	return shuffled(r, l)
}

// shuffled are the same entities in another order, each one's parents too, some of which are there more often.
func shuffled(r *rand.Rand, l []api.Entity) []api.Entity {
	l = some.CloneAll(l)
	for i, e := range l {
		for range e.Parents {
			l[i].Parents = append(l[i].Parents, e.Parents[r.Intn(len(e.Parents))])
		}
		shuffle(r, l[i].Parents)
	}
	shuffle(r, l)
	return l
}

func shuffle[T any](r *rand.Rand, l []T) {
	r.Shuffle(len(l), func(i, j int) { l[i], l[j] = l[j], l[i] })
}

func TestP5_3Again(t *testing.T) {
	r := rand.New(rand.NewSource(53))
	for range 2000 {
		l := good(r)
		c, e := Canon(l)
		if e != api.OK || len(c) != len(l) {
			t.Fatalf("Canon(%v): %v %v", l, c, e)
		}
		wantCanon(t, c, c)
	}
}

func TestP5_3AnyOrder(t *testing.T) {
	r := rand.New(rand.NewSource(54))
	for range 500 {
		l := good(r)
		want, _ := Canon(l)
		for range 5 {
			wantCanon(t, shuffled(r, l), want)
		}
	}
}

// TestP5_3AnyOrderOfOneFault has lists with one fault: it is told whatever the order.
func TestP5_3AnyOrderOfOneFault(t *testing.T) {
	r := rand.New(rand.NewSource(55))
	bad := map[api.Errno][]api.Entity{
		api.ErrDangling: some.Entities("U/a U/b", "U/b U/c U/x", "U/c"),
		api.ErrCycle:    some.Entities("U/a U/b U/d", "U/b U/c", "U/c U/a", "U/d"),
		api.ErrTwice:    some.Entities("U/a U/b", "U/b U/c", "U/c", "U/b"),
		api.ErrArg:      append(some.Entities("U/a U/b", "U/b"), some.With("U/c", "U/a", some.Num(1))),
		api.ErrDeep:     append(some.Entities("U/a U/b", "U/b"), some.With("U/c", "U/a", deep(51))),
	}
	for want, l := range bad {
		for range 50 {
			wantError(t, fmt.Sprint(l), shuffled(r, l), want)
		}
	}
	for range 2000 {
		l := chance(r)
		slices.SortFunc(l, func(a, b api.Entity) int { return nameOrder(a.Uid, b.Uid) })
		l = slices.CompactFunc(l, func(a, b api.Entity) bool { return a.Uid == b.Uid })
		if Round(l) != Round(shuffled(r, l)) {
			t.Fatalf("Round(%v): %t; not in another order", l, Round(l))
		}
	}
}

func TestRulesUnchanged(t *testing.T) {
	r := rand.New(rand.NewSource(56))
	for i := range 1000 {
		l := good(r)
		if i%2 == 0 {
			l = chance(r)
		}
		was := some.CloneAll(l)
		Canon(l)
		Round(l)
		if !some.EqualAll(l, was) {
			t.Fatalf("%v is %v then", was, l)
		}
	}
}

// TestRulesNewMemory holds that what is told stands apart from what was handed in, and one entity of it from the others.
func TestRulesNewMemory(t *testing.T) {
	r := rand.New(rand.NewSource(57))
	for range 500 {
		l := good(r)
		was := some.CloneAll(l)
		c, _ := Canon(l)
		want := some.CloneAll(c)
		some.SpoilAll(l)
		if !some.EqualAll(c, want) {
			t.Fatalf("%v is %v then", want, c)
		}
		l = some.CloneAll(was)
		c, _ = Canon(l)
		some.SpoilAll(c)
		if !some.EqualAll(l, was) {
			t.Fatalf("%v is %v then", was, l)
		}
		c, _ = Canon(l)
		for i := range c {
			some.SpoilAll(slices.Clone(c[i : i+1]))
			if !some.EqualAll(c[i+1:], want[i+1:]) {
				t.Fatalf("behind entity %d of %v is %v then", i, want, c)
			}
		}
	}
}

// TestRulesShared has entities that are handed in with the same lists.
func TestRulesShared(t *testing.T) {
	parents := append(make([]api.Uid, 0, 9), some.Uids("U/b U/a U/b")...)
	attrs := some.Record("b a", some.Set(some.Num(2), some.Num(1)), some.Num(1))
	l := []api.Entity{
		{Uid: some.Uid("U/d"), Parents: parents, Attrs: attrs}, {Uid: some.Uid("U/c"), Parents: parents, Attrs: attrs},
		{Uid: some.Uid("U/b"), Parents: parents[:0], Attrs: attrs}, {Uid: some.Uid("U/a"), Attrs: attrs},
	}
	was := some.CloneAll(l)
	c, e := Canon(l)
	want := some.CloneAll(c)
	if len(c) != 4 || e != api.OK || !some.EqualAll(l, was) {
		t.Fatal(c, e, l)
	}
	for i := range c {
		c[i].Parents = append(c[i].Parents, some.Uid("U/x"))
		some.SpoilAll(slices.Clone(c[i : i+1]))
		if !some.EqualAll(c[i+1:], want[i+1:]) || !some.EqualAll(l, was) {
			t.Errorf("entity %d: %v, %v", i, c, l)
		}
	}
}

// TestRulesSameAnswers asks often: a map's order is another one each time.
func TestRulesSameAnswers(t *testing.T) {
	r := rand.New(rand.NewSource(58))
	for range 100 {
		l := good(r)
		want, _ := Canon(l)
		for range 20 {
			wantCanon(t, l, want)
		}
	}
	l := append(some.Line(40, "U/39"), some.Entities("V/a V/b", "V/b V/a V/x")...)
	for range 200 {
		wantRound(t, l, true)
		wantError(t, "a list with several faults", l, api.ErrDangling)
	}
}

// TestRulesEnds has whatever may be handed in.
func TestRulesEnds(t *testing.T) {
	within := api.Value{Kind: api.Set, Items: make([]api.Value, 2)}
	within.Items[0], within.Items[1] = within, within
	l := []api.Entity{{}, {Attrs: within}, {Parents: []api.Uid{{}, {}}, Attrs: api.Value{Kind: math.MinInt}}, {Attrs: some.Record("a b", within, within)}}
	for i := range l {
		Canon(l[i:])
		Canon(l[i : i+1])
		Round(l[i:])
	}
	wantError(t, "a record of sets within themselves", l[3:], api.ErrDeep)
}
