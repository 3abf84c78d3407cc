package family

import (
	"fmt"
	"math"
	"math/rand"
	"slices"
	"strings"
	"testing"

	"chamberlain/api"
	"chamberlain/entity"
	"chamberlain/some"
)

// loaded is the store of entities that may be.
func loaded(t *testing.T, l []api.Entity) *Store {
	t.Helper()
	s, e := Load(l)
	if e != api.OK || s == nil {
		t.Fatalf("Load(%.300v): %v", l, e)
	}
	return s
}

// asked are names of entities, and some like them that may not be there.
func asked(l []api.Entity) []api.Uid {
	names := some.Uids("U/a U/b U/c U/A U/aa V/a V/b Ua/ / U/ /a W/a")
	for _, e := range l {
		names = append(names, e.Uid, api.Uid{Type: e.Uid.Type + e.Uid.Id}, api.Uid{Type: e.Uid.Id, Id: e.Uid.Type})
	}
	slices.SortFunc(names, entity.Order)
	return slices.Compact(names)
}

// places are those of the names of a list.
func places(l []api.Entity) map[api.Uid]int {
	at := map[api.Uid]int{}
	for i, e := range l {
		at[e.Uid] = i
	}
	return at
}

// ways tells from which place of a list a way of at least one step leads to which, by the document's words: an oracle.
func ways(l []api.Entity) [][]bool {
	at := places(l)
	leads := make([][]bool, len(l))
	for i, e := range l {
		leads[i] = make([]bool, len(l))
		for _, parent := range e.Parents {
			leads[i][at[parent]] = true
		}
	}
	for by := range l {
		for i := range l {
			for j := range l {
				leads[i][j] = leads[i][j] || leads[i][by] && leads[by][j]
			}
		}
	}
	return leads
}

// wantFamily holds all that a store tells against entities as Canon tells them, by the document's words.
func wantFamily(t *testing.T, s *Store, canonical []api.Entity) {
	t.Helper()
	if all := s.All(); !some.EqualAll(all, canonical) {
		t.Errorf("All: %.300v, not %.300v", all, canonical)
	}
	at, leads := places(canonical), ways(canonical)
	for _, a := range asked(canonical) {
		place, there := at[a]
		got, found := s.Get(a)
		if found != there || there && !some.EqualAll([]api.Entity{got}, canonical[place:place+1]) || !there && !some.EqualAll([]api.Entity{got}, []api.Entity{{}}) {
			t.Errorf("Get(%q): %v %t, of %.300v", a, got, found, canonical)
		}
		var above []api.Uid
		for i, e := range canonical { // they rise
			if there && leads[place][i] {
				above = append(above, e.Uid)
			}
		}
		if got := s.Above(a); !slices.Equal(got, above) {
			t.Errorf("Above(%q): %q, not %q, of %.300v", a, got, above, canonical)
		}
		for _, b := range asked(canonical) {
			if want := a == b || slices.Contains(above, b); s.In(a, b) != want {
				t.Errorf("In(%q, %q): %t, of %.300v", a, b, !want, canonical)
			}
		}
	}
}

func wantError(t *testing.T, what string, l []api.Entity, want api.Errno) {
	t.Helper()
	if s, e := Load(l); s != nil || e != want {
		t.Errorf("Load of %s: %t %v, not %v", what, s != nil, e, want)
	}
}

func wantAbove(t *testing.T, s *Store, name, above string) {
	t.Helper()
	if got := s.Above(some.Uid(name)); !slices.Equal(got, some.Uids(above)) {
		t.Errorf("Above(%s): %.300v, not %.300s", name, got, above)
	}
}

func wantIn(t *testing.T, s *Store, a, b string, want bool) {
	t.Helper()
	if s.In(some.Uid(a), some.Uid(b)) != want {
		t.Errorf("In(%s, %s): %t", a, b, !want)
	}
}

// good are up to twelve entities that may be, in no order, with parents and attributes in no order, some parents more often than once.
func good(r *rand.Rand) []api.Entity {
	var l []api.Entity
	for i := range r.Intn(13) {
		e := api.Entity{Uid: api.Uid{Type: []string{"U", "V", "A::B"}[r.Intn(3)], Id: fmt.Sprint(i * 7 % 13)}}
		for range r.Intn(4) {
			if i > 0 {
				e.Parents = append(e.Parents, l[r.Intn(i)].Uid)
			}
		}
		e.Attrs = some.Record("b a", some.Set(some.Num(int64(r.Intn(3))), some.Num(1), some.Truth(true)), some.Record("d c", some.Num(int64(i)), some.Text("x")))
		l = append(l, e)
	}
	shuffle(r, l)
	return l
}

func shuffle[T any](r *rand.Rand, l []T) {
	r.Shuffle(len(l), func(i, j int) { l[i], l[j] = l[j], l[i] })
}

func TestP6_1Load(t *testing.T) {
	for _, c := range []struct{ l, want []api.Entity }{
		{some.Entities("U/a"), some.Entities("U/a")},
		{some.Entities("U/b", "U/a"), some.Entities("U/a", "U/b")},
		{some.Entities("V/a", "U/b V/a V/a", "U/a V/a U/b"), some.Entities("U/a U/b V/a", "U/b V/a", "V/a")},
		{some.Entities("Ua/b U/z", "U/z", "U/ab Ua/b"), some.Entities("U/ab Ua/b", "U/z", "Ua/b U/z")},
		{[]api.Entity{{Attrs: some.Record("")}}, []api.Entity{{Attrs: some.Record("")}}}, // a name may be any
		{[]api.Entity{{Uid: api.Uid{Type: "1 \n", Id: "\xff/"}, Attrs: some.Record("")}}, []api.Entity{{Uid: api.Uid{Type: "1 \n", Id: "\xff/"}, Attrs: some.Record("")}}},
		{
			[]api.Entity{some.With("U/b", "", some.Record("b a", some.Num(1), some.Set(some.Num(2), some.Num(1), some.Num(2)))), some.With("U/a", "U/b", some.Record("a", some.Ref("X", "x")))},
			[]api.Entity{some.With("U/a", "U/b", some.Record("a", some.Ref("X", "x"))), some.With("U/b", "", some.Record("a b", some.Set(some.Num(1), some.Num(2)), some.Num(1)))},
		},
		{
			[]api.Entity{some.With("U/a", "", some.Record("a", some.Tower(api.MaxDepth-1, some.Num(1))))},
			[]api.Entity{some.With("U/a", "", some.Record("a", some.Tower(api.MaxDepth-1, some.Num(1))))},
		},
	} {
		wantFamily(t, loaded(t, c.l), c.want)
	}
}

// TestP6_1Empty has no entities: there is a store of them.
func TestP6_1Empty(t *testing.T) {
	wantFamily(t, loaded(t, nil), nil)
	wantFamily(t, loaded(t, []api.Entity{}), nil)
}

// TestP6_1Errors has each of the errors that entity.Canon tells.
func TestP6_1Errors(t *testing.T) {
	within := some.Record("a", api.Value{})
	within.Items[0] = within
	for _, c := range []struct {
		name string
		l    []api.Entity
		want api.Errno
	}{
		{"one twice", some.Entities("U/a", "U/b", "U/a"), api.ErrTwice},
		{"no attributes", []api.Entity{{}}, api.ErrArg},
		{"a set as attributes", []api.Entity{some.With("U/a", "", some.Set())}, api.ErrArg},
		{"an item that is none", []api.Entity{some.With("U/a", "", some.Record("a", api.Value{}))}, api.ErrArg},
		{"more names than items", []api.Entity{some.With("U/a", "", some.Record("a b", some.Num(1)))}, api.ErrArg},
		{"a name twice", []api.Entity{some.With("U/a", "", some.Record("a a", some.Num(1), some.Num(1)))}, api.ErrTwice},
		{"51 deep", []api.Entity{some.With("U/a", "", some.Record("a", some.Tower(api.MaxDepth, some.Num(1))))}, api.ErrDeep},
		{"a record within itself", []api.Entity{some.With("U/a", "", within)}, api.ErrDeep},
		{"a set of 4097", []api.Entity{some.With("U/a", "", some.Record("a", some.Set())), some.With("U/b", "", some.Record("a", manyNumbers(api.MaxItems+1)))}, api.ErrLong},
		{"a parent that isn't there", some.Entities("U/a U/b"), api.ErrDangling},
		{"a parent of another type", some.Entities("U/a V/a U/b", "U/b"), api.ErrDangling},
		{"one above itself", some.Entities("U/a U/a"), api.ErrCycle},
		{"two above themselves", some.Entities("U/a U/b", "U/b U/a"), api.ErrCycle},
		{"a way into a round", some.Entities("U/a U/b", "U/b U/c", "U/c U/d", "U/d U/b"), api.ErrCycle},
		{"4097", some.Line(api.MaxItems+1, ""), api.ErrLong},
		{"4097, with other faults", append(some.Line(api.MaxItems, "U/0"), api.Entity{}), api.ErrLong},
		{"a fault of an entity, and a round", []api.Entity{some.Entity("U/a", "U/a"), some.With("U/b", "", some.Num(1))}, api.ErrArg},
		{"a parent that isn't there, and a round", some.Entities("U/a U/a", "U/b U/x"), api.ErrDangling},
	} {
		wantError(t, c.name, c.l, c.want)
	}
}

// manyNumbers is a set of n.
func manyNumbers(n int) api.Value {
	v := some.Set()
	for i := range n {
		v.Items = append(v.Items, some.Num(int64(i)))
	}
	return v
}

// TestP6_1AllShort asks for all lists of up to three entities of three names, with and without faults: Canon's error is told, or what it tells.
func TestP6_1AllShort(t *testing.T) {
	var pieces []api.Entity
	for _, name := range []string{"V/a", "U/b", "U/a"} {
		for _, parents := range []string{"", "U/a", "U/b", "V/a", "U/b U/a U/b", "V/a U/a"} {
			pieces = append(pieces, some.Entity(name, parents))
		}
		pieces = append(pieces, some.With(name, "", some.Record("b a", some.Num(1), some.Num(2))), some.With(name, "U/a", some.Num(1)), some.With(name, "", some.Record("a a", some.Num(1), some.Num(1))))
	}
	told := map[api.Errno]int{}
	for _, l := range some.Lists(3, pieces) {
		want, wanted := entity.Canon(l)
		told[wanted]++
		if wanted != api.OK {
			wantError(t, fmt.Sprint(l), l, wanted)
			continue
		}
		wantFamily(t, loaded(t, l), want)
	}
	if len(told) != 5 {
		t.Error("some errors weren't asked for:", told)
	}
}

// TestP6_1Get has names that are like one that is there.
func TestP6_1Get(t *testing.T) {
	s := loaded(t, []api.Entity{some.With("U/ab", "U/b", some.Record("a", some.Num(1))), some.With("U/b", "", some.Record("a", some.Num(2)))})
	if e, found := s.Get(some.Uid("U/ab")); !found || !some.EqualAll([]api.Entity{e}, []api.Entity{some.With("U/ab", "U/b", some.Record("a", some.Num(1)))}) {
		t.Error(e, found)
	}
	if e, found := s.Get(some.Uid("U/b")); !found || !some.EqualAll([]api.Entity{e}, []api.Entity{some.With("U/b", "", some.Record("a", some.Num(2)))}) {
		t.Error(e, found)
	}
	for _, name := range []api.Uid{{}, {Type: "U"}, {Id: "ab"}, {Type: "U", Id: "a"}, {Type: "U", Id: "AB"}, {Type: "u", Id: "ab"}, {Type: "Ua", Id: "b"}, {Type: "ab", Id: "U"}, {Type: "U", Id: "ab\x00"}, {Type: "U", Id: "U/ab"}, {Type: "U", Id: "c"}} {
		if e, found := s.Get(name); found || !some.EqualAll([]api.Entity{e}, []api.Entity{{}}) {
			t.Errorf("Get(%q): %v %t", name, e, found)
		}
	}
}

// TestP6_1Many has as many entities as may be.
func TestP6_1Many(t *testing.T) {
	l := some.Line(api.MaxItems, "")
	for i := range l {
		l[i].Attrs = some.Record("n", some.Num(int64(i)))
	}
	s := loaded(t, l)
	want, _ := entity.Canon(l)
	if !some.EqualAll(s.All(), want) {
		t.Error("All of 4096")
	}
	for _, e := range l {
		if got, found := s.Get(e.Uid); !found || !some.EqualAll([]api.Entity{got}, []api.Entity{e}) {
			t.Fatalf("Get(%v): %v %t", e.Uid, got, found)
		}
	}
}

// TestP6_1NewMemory spoils what was handed in, and what was told: the store stays as it was.
func TestP6_1NewMemory(t *testing.T) {
	r := rand.New(rand.NewSource(61))
	for range 300 {
		l := good(r)
		was := some.CloneAll(l)
		want, _ := entity.Canon(l)
		s := loaded(t, l)
		if !some.EqualAll(l, was) {
			t.Fatalf("%v is %v then", was, l)
		}
		some.SpoilAll(l)
		wantFamily(t, s, want)
		for _, e := range want {
			got, _ := s.Get(e.Uid)
			some.SpoilAll([]api.Entity{got})
			some.SpoilUids(s.Above(e.Uid))
		}
		wantFamily(t, s, want)
		some.SpoilAll(s.All())
		wantFamily(t, s, want)
	}
}

// TestP6_1NewMemoryApart spoils one answer, and one entity of an answer: the others stay as they were.
func TestP6_1NewMemoryApart(t *testing.T) {
	r := rand.New(rand.NewSource(62))
	for range 300 {
		l := good(r)
		want, _ := entity.Canon(l)
		s := loaded(t, l)
		all, again, other := s.All(), s.All(), loaded(t, l)
		var each []api.Entity
		for _, e := range want {
			got, _ := s.Get(e.Uid)
			each = append(each, got)
		}
		for i := range all {
			some.SpoilAll(slices.Clone(all[i : i+1]))
			if !some.EqualAll(all[i+1:], want[i+1:]) {
				t.Fatalf("behind entity %d of %v is %v then", i, want, all)
			}
		}
		some.SpoilAll(all)
		if !some.EqualAll(again, want) || !some.EqualAll(each, want) {
			t.Fatalf("%v is %v, %v then", want, again, each)
		}
		wantFamily(t, other, want)
	}
}

// TestP6_2Example is the document's.
func TestP6_2Example(t *testing.T) {
	s := loaded(t, some.Entities("U/a U/b", "U/b U/c", "U/c"))
	wantAbove(t, s, "U/a", "U/b U/c")
	wantAbove(t, s, "U/b", "U/c")
	wantAbove(t, s, "U/c", "")
}

func TestP6_2Above(t *testing.T) {
	for _, c := range []struct {
		l           []api.Entity
		name, above string
	}{
		{some.Entities("U/a"), "U/a", ""},
		{some.Entities("U/a"), "U/b", ""},
		{some.Entities("U/a U/b", "U/b"), "U/a", "U/b"},
		{some.Entities("U/a U/b", "U/b"), "U/b", ""}, // not what is below
		{some.Entities("U/a U/b", "U/b"), "V/a", ""},
		{some.Entities("U/a U/b", "U/b"), "U/x", ""},
		{some.Entities("U/c", "U/b U/c", "U/a U/b"), "U/a", "U/b U/c"},
		{some.Entities("U/a U/b U/c", "U/b U/d", "U/c U/d", "U/d"), "U/a", "U/b U/c U/d"}, // two ways lead to d
		{some.Entities("U/a U/b U/b", "U/b"), "U/a", "U/b"},
		{some.Entities("U/a U/b U/c", "U/b U/c", "U/c"), "U/a", "U/b U/c"},
		{some.Entities("U/m U/z", "U/z U/a", "U/a U/k", "U/k A/x", "A/x"), "U/m", "A/x U/a U/k U/z"}, // they rise, whatever the way
		{some.Entities("U/m U/z U/a V/a", "U/z V/a", "U/a", "V/a"), "U/m", "U/a U/z V/a"},
		{some.Entities("U/m U/9 U/10", "U/9", "U/10", "U/x U/m"), "U/m", "U/10 U/9"},
		{some.Entities("U/a V/a", "V/a U/b", "U/b V/b", "V/b"), "U/a", "U/b V/a V/b"},
		{some.Entities("U/a V/a", "V/a U/b", "U/b V/b", "V/b"), "V/a", "U/b V/b"},
		{some.Entities("U/ab Ua/b", "Ua/b Uab/", "Uab/"), "U/ab", "Ua/b Uab/"},
		{some.Entities("U/a", "U/b U/a", "U/c U/a", "U/d U/b U/c"), "U/d", "U/a U/b U/c"},
		{some.Entities("U/a", "U/b U/a", "U/c U/a", "U/d U/b U/c"), "U/c", "U/a"},
		{some.Entities("U/a U/b", "U/b", "U/c U/d", "U/d"), "U/c", "U/d"}, // not what is above others
	} {
		s := loaded(t, c.l)
		wantAbove(t, s, c.name, c.above)
		wantAbove(t, s, c.name, c.above)
	}
}

func TestP6_2In(t *testing.T) {
	l := some.Entities("U/a U/b V/a", "U/b U/c", "U/c", "V/a", "V/b V/a U/d", "U/d U/c")
	for _, c := range []struct {
		a, b string
		want bool
	}{
		{"U/a", "U/a", true},
		{"U/a", "U/b", true},
		{"U/a", "U/c", true},
		{"U/a", "V/a", true},
		{"U/b", "U/a", false},
		{"U/c", "U/a", false},
		{"U/c", "U/c", true},
		{"V/a", "U/a", false}, // a name is its Type and its Id
		{"U/b", "V/a", false},
		{"U/a", "U/d", false},
		{"U/a", "V/b", false},
		{"V/b", "U/c", true},
		{"V/b", "U/b", false},
		{"U/d", "U/b", false},
		{"U/x", "U/x", true}, // neither is there
		{"U/x", "U/y", false},
		{"W/x", "U/x", false},
		{"U/a", "U/x", false},
		{"U/x", "U/a", false},
		{"U/x", "U/c", false},
		{"/", "/", true},
		{"/", "U/a", false},
		{"U/a", "/", false},
	} {
		wantIn(t, loaded(t, l), c.a, c.b, c.want)
		s := loaded(t, l)
		s.Above(some.Uid(c.b)) // whatever was asked ahead of it
		s.In(some.Uid(c.b), some.Uid(c.a))
		wantIn(t, s, c.a, c.b, c.want)
		wantIn(t, s, c.a, c.b, c.want)
	}
}

// TestP6_2NotThere asks for names that aren't in a store: nothing comes to be there by that.
func TestP6_2NotThere(t *testing.T) {
	l := some.Entities("U/a U/b", "U/b")
	s := loaded(t, l)
	for range 3 {
		for _, a := range some.Uids("U/x V/a / Ua/ /a") {
			for _, b := range append(some.Uids("U/a U/b U/x V/a / Ua/"), api.Uid{Type: "\xff", Id: "\x00"}) {
				if s.In(a, b) != (a == b) || s.In(b, a) != (a == b) {
					t.Errorf("In(%q, %q)", a, b)
				}
			}
			if above := s.Above(a); len(above) != 0 {
				t.Errorf("Above(%q): %v", a, above)
			}
		}
		wantFamily(t, s, l)
	}
}

// TestP6_2AnyOrder asks in any order: each answer is that of a store that wasn't asked yet.
func TestP6_2AnyOrder(t *testing.T) {
	r := rand.New(rand.NewSource(63))
	for range 200 {
		l := good(r)
		s := loaded(t, l)
		names := asked(l)
		for range 50 {
			a, b := names[r.Intn(len(names))], names[r.Intn(len(names))]
			fresh := loaded(t, l)
			if r.Intn(2) == 0 {
				if got, want := s.In(a, b), fresh.In(a, b); got != want {
					t.Fatalf("In(%v, %v) of %v: %t, not %t", a, b, l, got, want)
				}
			} else if got, want := s.Above(a), fresh.Above(a); !slices.Equal(got, want) {
				t.Fatalf("Above(%v) of %v: %v, not %v", a, l, got, want)
			}
		}
	}
}

func TestP6_2Chance(t *testing.T) {
	r := rand.New(rand.NewSource(64))
	below := 0
	for range 1000 {
		l := good(r)
		want, _ := entity.Canon(l)
		wantFamily(t, loaded(t, l), want)
		for _, above := range ways(want) {
			if slices.Contains(above, true) {
				below++
			}
		}
	}
	if below < 1000 {
		t.Error("too few were below others:", below)
	}
}

// TestP6_2AllShort asks for all entities of four names, each one below any of the next ones, in two orders of names.
func TestP6_2AllShort(t *testing.T) {
	for _, names := range []string{"U/a U/b V/a V/b", "V/b U/b V/a U/a"} {
		order := some.Uids(names)
		for steps := range 1 << 6 {
			var l []api.Entity
			for i, name := range order {
				e := api.Entity{Uid: name, Attrs: some.Record("")}
				for j := range i {
					if steps>>(i*(i-1)/2+j)&1 == 1 {
						e.Parents = append(e.Parents, order[j])
					}
				}
				l = append(l, e)
			}
			want, _ := entity.Canon(l)
			wantFamily(t, loaded(t, l), want)
		}
	}
}

// TestP6_2Long has long ways, and many.
func TestP6_2Long(t *testing.T) {
	n := api.MaxItems
	s := loaded(t, some.Line(n, ""))
	last := fmt.Sprint("U/", n-1)
	wantIn(t, s, "U/0", last, true)
	wantIn(t, s, last, "U/0", false)
	wantIn(t, s, "U/1", "U/0", false)
	for _, i := range []int{0, 1, n / 2, n - 2, n - 1} {
		var above []api.Uid
		for j := i + 1; j < n; j++ {
			above = append(above, some.Uid(fmt.Sprint("U/", j)))
		}
		slices.SortFunc(above, entity.Order)
		if got := s.Above(some.Uid(fmt.Sprint("U/", i))); !slices.Equal(got, above) {
			t.Errorf("Above(U/%d): %d names, not %d", i, len(got), len(above))
		}
	}
	s = loaded(t, some.Ladder(n/2))
	for _, top := range []string{"U/2047", "V/2047"} {
		wantIn(t, s, "U/0", top, true)
		wantIn(t, s, "V/0", top, true)
		wantIn(t, s, top, "U/0", false)
	}
	wantIn(t, s, "U/0", "V/0", false)
	wantIn(t, s, "V/2047", "U/2047", false)
	if above := s.Above(some.Uid("U/0")); len(above) != n-2 || !slices.IsSortedFunc(above, entity.Order) {
		t.Error("a ladder:", len(above))
	}
}

// TestP6_2Wide has one entity below, and one above, as many as may be.
func TestP6_2Wide(t *testing.T) {
	l := []api.Entity{some.Entity("A/a", ""), some.Entity("Z/z", "")}
	for i := range api.MaxItems - 2 {
		e := some.Entity(fmt.Sprintf("U/%d", i), "Z/z")
		l[0].Parents = append(l[0].Parents, e.Uid)
		l = append(l, e)
	}
	s := loaded(t, l)
	if above := s.Above(some.Uid("A/a")); len(above) != api.MaxItems-1 || !slices.IsSortedFunc(above, entity.Order) || above[api.MaxItems-2] != some.Uid("Z/z") {
		t.Error(len(above))
	}
	for i, e := range l[2:] {
		if !s.In(e.Uid, some.Uid("Z/z")) || !s.In(some.Uid("A/a"), e.Uid) || s.In(e.Uid, some.Uid("A/a")) || s.In(e.Uid, some.Uid("U/x")) {
			t.Fatal(e.Uid)
		}
		if i%64 == 0 && !slices.Equal(s.Above(e.Uid), some.Uids("Z/z")) {
			t.Fatal(e.Uid, s.Above(e.Uid))
		}
	}
}

// TestP6_2NewMemory spoils what Above told, and what there is room for behind it.
func TestP6_2NewMemory(t *testing.T) {
	s := loaded(t, some.Entities("U/a U/b U/c", "U/b U/d", "U/c U/d", "U/d"))
	for range 3 {
		kept := s.Above(some.Uid("U/b"))
		for _, name := range []string{"U/a", "U/b", "U/c", "U/d"} {
			some.SpoilUids(s.Above(some.Uid(name)))
		}
		if !slices.Equal(kept, some.Uids("U/d")) {
			t.Error(kept)
		}
		wantAbove(t, s, "U/a", "U/b U/c U/d")
		wantAbove(t, s, "U/b", "U/d")
		wantFamily(t, s, some.Entities("U/a U/b U/c", "U/b U/d", "U/c U/d", "U/d"))
	}
}

// TestP6_2Apart has two stores of the same names: each one tells its own.
func TestP6_2Apart(t *testing.T) {
	l, m := some.Entities("U/a U/b", "U/b"), some.Entities("U/a", "U/b U/a", "U/c U/b")
	s, o := loaded(t, l), loaded(t, m)
	for range 2 {
		wantFamily(t, s, l)
		wantFamily(t, o, m)
	}
}

func TestP6_3Nil(t *testing.T) {
	var s *Store
	names := append(some.Uids("U/a U/b V/a / U/ /a"), api.Uid{Type: "\xff", Id: "\x00"})
	for _, a := range names {
		if e, found := s.Get(a); found || !some.EqualAll([]api.Entity{e}, []api.Entity{{}}) {
			t.Errorf("Get(%q): %v %t", a, e, found)
		}
		if above := s.Above(a); len(above) != 0 {
			t.Errorf("Above(%q): %v", a, above)
		}
		for _, b := range names {
			if s.In(a, b) != (a == b) {
				t.Errorf("In(%q, %q): %t", a, b, a != b)
			}
		}
	}
	if all := s.All(); len(all) != 0 {
		t.Error(all)
	}
}

// TestP6_4Over asks for three names of each store, there or not.
func TestP6_4Over(t *testing.T) {
	r := rand.New(rand.NewSource(65))
	over := 0
	for range 200 {
		l := good(r)
		s, names := loaded(t, l), asked(l)
		for _, a := range names {
			for _, b := range names {
				if a != b && s.In(a, b) && s.In(b, a) {
					t.Fatalf("%v and %v are in one another: %v", a, b, l)
				}
				for _, c := range names {
					if !s.In(a, b) || !s.In(b, c) {
						continue
					}
					if !s.In(a, c) {
						t.Fatalf("%v is in %v, that in %v: %v", a, b, c, l)
					}
					if a != b && b != c {
						over++
					}
				}
			}
		}
	}
	if over < 500 {
		t.Error("too few went over three:", over)
	}
}

// TestRulesAnyOrder has the same entities in other orders: what is told is the same.
func TestRulesAnyOrder(t *testing.T) {
	r := rand.New(rand.NewSource(66))
	for range 100 {
		l := good(r)
		want, _ := entity.Canon(l)
		for range 4 {
			shuffle(r, l)
			for i := range l {
				shuffle(r, l[i].Parents)
			}
			wantFamily(t, loaded(t, l), want)
		}
	}
}

// TestRulesUnchanged holds that asking changes nothing of what was handed in.
func TestRulesUnchanged(t *testing.T) {
	r := rand.New(rand.NewSource(67))
	for range 300 {
		l := good(r)
		was := some.CloneAll(l)
		s := loaded(t, l)
		for _, name := range asked(l) {
			s.Get(name)
			s.Above(name)
			s.In(name, some.Uid("U/a"))
		}
		s.All()
		if !some.EqualAll(l, was) {
			t.Fatalf("%v is %v then", was, l)
		}
	}
}

// TestRulesEnds has whatever may be handed in, and a store that no one loaded.
func TestRulesEnds(t *testing.T) {
	within := api.Value{Kind: api.Set, Items: make([]api.Value, 2)}
	within.Items[0], within.Items[1] = within, within
	l := []api.Entity{{}, {Attrs: within}, {Parents: []api.Uid{{}, {}}, Attrs: api.Value{Kind: math.MinInt}}, {Attrs: some.Record("a b", within, within)}}
	for i := range l {
		Load(l[i:])
		Load(l[i : i+1])
	}
	long := api.Uid{Type: strings.Repeat("x", 1<<20), Id: strings.Repeat("y", 1<<20)}
	for _, s := range []*Store{nil, {}, loaded(t, []api.Entity{{Uid: long, Attrs: some.Record("")}})} {
		for _, name := range []api.Uid{{}, some.Uid("U/a"), long} {
			s.Get(name)
			s.Above(name)
			s.In(name, long)
			s.In(long, name)
		}
		s.All()
	}
}
