package types

import (
	"fmt"
	"math"
	"testing"

	"chamberlain/api"
	"chamberlain/some"
)

var (
	never = some.Type(api.TNever)
	yes   = some.Type(api.TTrue)
	no    = some.Type(api.TFalse)
	truly = some.Type(api.TBool)
	num   = some.Type(api.TInt)
	text  = some.Type(api.TText)
	ref   = some.TRef("A")
	none  = some.TRecord("")
)

func wantCheck(t *testing.T, one api.Type, want api.Errno) {
	t.Helper()
	if e := Check(one); e != want {
		t.Fatalf("Check(%.300s): %d; not %d", fmt.Sprint(one), e, want)
	}
}

func wantBelow(t *testing.T, a, b api.Type, want bool) {
	t.Helper()
	if Below(a, b) != want {
		t.Fatalf("Below(%.300s, %.300s): %t", fmt.Sprint(a), fmt.Sprint(b), !want)
	}
}

func wantSame(t *testing.T, a, b api.Type, want bool) {
	t.Helper()
	if Same(a, b) != want {
		t.Fatalf("Same(%.300s, %.300s): %t", fmt.Sprint(a), fmt.Sprint(b), !want)
	}
}

func wantJoin(t *testing.T, a, b, want api.Type) {
	t.Helper()
	if j, e := Join(a, b); e != api.OK || !some.EqualType(j, want) {
		t.Fatalf("Join(%.300s, %.300s): %.300s, %d; not %.300s", fmt.Sprint(a), fmt.Sprint(b), fmt.Sprint(j), e, fmt.Sprint(want))
	}
}

func wantNoJoin(t *testing.T, a, b api.Type) {
	t.Helper()
	if j, e := Join(a, b); e != api.ErrType || !some.EqualType(j, api.Type{}) || j.Elem != nil || j.Attrs != nil {
		t.Fatalf("Join(%.300s, %.300s): %.300s, %d; not %d", fmt.Sprint(a), fmt.Sprint(b), fmt.Sprint(j), e, api.ErrType)
	}
}

// mayBes are types of all kinds that may be.
func mayBes() []api.Type {
	return []api.Type{
		never, yes, no, truly, num, text, ref, none, some.TSet(never), some.TSet(num), some.TSet(some.TSet(none)),
		some.TRef(""), some.TRef("no path"), some.TRef("\xff"), some.TRecord("a", never), some.TRecord("a?", yes),
		some.TRecord("A Z _ a a0 aa ab b", num, num, num, num, num, num, num, num),
		some.TRecord("a b c?", some.TSet(ref), some.TRecord("a", truly), text),
		{Kind: api.TRecord, Attrs: []api.Attr{{Name: "", Type: num}, {Name: "\x00", Type: num}, {Name: "\x00a", Type: num}, {Name: " ", Type: num}, {Name: "10", Type: num}, {Name: "9", Type: num}, {Name: "a", Type: num}, {Name: "a\x00", Type: num}, {Name: "\x7f", Type: num}, {Name: "\x80", Type: num}, {Name: "\xc3\xa9", Type: num}, {Name: "\xff", Type: num}}},
		{Kind: api.TInt, Name: "A", Elem: []api.Type{num, text}, Attrs: some.Attrs("a b", num, num)}, // what the kind hasn't may be, if it may be by itself
		{Kind: api.TRecord, Elem: []api.Type{num, num}},
		{Kind: api.TSet, Elem: []api.Type{num}, Attrs: some.Attrs("a", num)},
		{Kind: api.TRecord, Elem: []api.Type{}, Attrs: []api.Attr{}},
	}
}

// mayNotBes are types without more than one fault.
func mayNotBes() []api.Type {
	return []api.Type{
		{Kind: -1}, {Kind: 9}, {Kind: math.MinInt}, {Kind: math.MaxInt}, {Kind: 1 << 32}, {Kind: 0x107},
		{Kind: api.TSet}, {Kind: api.TSet, Elem: []api.Type{}}, {Kind: api.TSet, Elem: []api.Type{num, num}}, {Kind: api.TSet, Attrs: some.Attrs("a", num)},
		some.TRecord("a a", num, num), some.TRecord("a a?", num, num), some.TRecord("b a", num, num), some.TRecord("ab a", num, num), some.TRecord("a Z", num, num),
		some.TRecord("a b b", num, num, num), some.TRecord("a c b", num, num, num), some.TRecord("b a c", num, num, num), some.TRecord("a b a", num, num, num), some.TRecord("9 10", num, num),
		{Kind: api.TRecord, Attrs: []api.Attr{{Name: "", Type: num}, {Name: "", Type: num}}},
		{Kind: api.TRecord, Attrs: []api.Attr{{Name: "\xff", Type: num}, {Name: "\x7f", Type: num}}},
		{Kind: api.TInt, Attrs: some.Attrs("b a", num, num)}, // whatever its kind
		{Kind: api.TSet, Elem: []api.Type{num}, Attrs: some.Attrs("a a", num, num)},
		{Kind: api.TNever, Attrs: some.Attrs("a a", num, num)},
	}
}

// around are types with one within them, in each place.
func around(one api.Type) []api.Type {
	return []api.Type{
		some.TSet(one), some.TRecord("a", one), some.TRecord("a?", one), some.TRecord("a b c", num, one, num), some.TRecord("a b", num, one),
		some.TSet(some.TRecord("a", some.TSet(one))), some.TRecord("a b", num, some.TRecord("a?", one)),
		{Kind: api.TInt, Elem: []api.Type{one}}, {Kind: api.TNever, Elem: []api.Type{num, one}}, {Kind: api.TText, Attrs: some.Attrs("a", one)}, // whatever its kind
		{Kind: api.TRecord, Elem: []api.Type{one}}, {Kind: api.TSet, Elem: []api.Type{num}, Attrs: some.Attrs("a", one)}, {Kind: api.TRef, Elem: []api.Type{one, num}},
	}
}

// rings are types within themselves, which have no end.
func rings() []api.Type {
	var l []api.Type
	for kind := -1; kind <= 9; kind++ {
		elems, attrs, both := make([]api.Type, 2), make([]api.Attr, 2), make([]api.Type, 1)
		elems[1] = api.Type{Kind: kind, Elem: elems}
		attrs[1] = api.Attr{Name: "a", Type: api.Type{Kind: kind, Attrs: attrs}}
		both[0] = api.Type{Kind: kind, Elem: both, Attrs: some.Attrs("a b", api.Type{Kind: kind, Elem: both}, num)}
		l = append(l, elems[1], attrs[1].Type, both[0], some.TSet(both[0]), some.TRecord("a", both[0]))
	}
	return l
}

func TestP11_1Check(t *testing.T) {
	wantCheck(t, api.Type{}, api.OK)
	for kind := -20; kind <= 300; kind++ {
		if kind != api.TSet {
			want := api.ErrArg
			if 0 <= kind && kind <= 8 {
				want = api.OK
			}
			wantCheck(t, api.Type{Kind: kind}, want)
		}
	}
	for _, one := range mayBes() {
		wantCheck(t, one, api.OK)
		for _, outer := range around(one) {
			wantCheck(t, outer, api.OK)
		}
	}
}

func TestP11_1CheckArg(t *testing.T) {
	for _, one := range mayNotBes() {
		wantCheck(t, one, api.ErrArg)
		for _, outer := range around(one) {
			wantCheck(t, outer, api.ErrArg)
			for _, outermost := range around(outer) {
				wantCheck(t, outermost, api.ErrArg)
			}
		}
		wantCheck(t, some.TypeTower(api.MaxDepth-2, one), api.ErrArg)
	}
}

func TestP11_1CheckDeep(t *testing.T) {
	for _, depth := range []int{1, 2, 49, 50, 51, 52, 99, 100, 101, 1000, 1 << 16} {
		want := api.OK
		if depth > 50 {
			want = api.ErrDeep
		}
		for _, inner := range []api.Type{num, none, never} {
			wantCheck(t, some.TypeTower(depth, inner), want)
		}
	}
	for levels, want := range map[int]api.Errno{49: api.OK, 50: api.ErrDeep} {
		for i, outer := range around(some.TypeTower(levels, num)) {
			if i != 5 && i != 6 { // those are deeper
				wantCheck(t, outer, want)
			}
		}
	}
	wantCheck(t, some.TSet(some.TRecord("a", some.TSet(some.TypeTower(47, num)))), api.OK)
	wantCheck(t, some.TSet(some.TRecord("a", some.TSet(some.TypeTower(48, num)))), api.ErrDeep)
}

// TestP11_1CheckDeepFirst has types that are nested too deep, and have other faults ahead of that and behind.
func TestP11_1CheckDeepFirst(t *testing.T) {
	deep := some.TypeTower(50, num)
	for _, one := range mayNotBes() {
		wantCheck(t, some.TRecord("a b", one, deep), api.ErrDeep)
		wantCheck(t, some.TRecord("a b", deep, one), api.ErrDeep)
		wantCheck(t, api.Type{Kind: api.TSet, Elem: []api.Type{one, deep}}, api.ErrDeep)
		wantCheck(t, some.TypeTower(51, one), api.ErrDeep)
		one = some.CloneType(one)
		one.Elem = append(one.Elem, deep)
		wantCheck(t, one, api.ErrDeep)
		one.Elem = nil
		one.Attrs = append(one.Attrs, some.Attrs("a", deep)...)
		wantCheck(t, one, api.ErrDeep)
	}
	for _, one := range rings() {
		wantCheck(t, one, api.ErrDeep)
	}
}

// TestP11_1CheckChance holds Check against the document's words, of types made by chance and spoilt ones.
func TestP11_1CheckChance(t *testing.T) {
	s := &source{88172645463325252}
	faults := mayNotBes()
	count := map[api.Errno]int{}
	for i := range 20000 {
		one := s.filled(s.made(1+i%5, api.TNever))
		wantCheck(t, one, api.OK)
		for range s.Below(3) {
			l := places(&one)
			p := l[s.Below(len(l))]
			switch s.Below(5) {
			case 0:
				p.Kind = s.Below(11) - 1
			case 1:
				p.Elem = append(p.Elem, s.made(2, api.TNever))
			case 2:
				p.Attrs = append(p.Attrs, some.Attrs("b", s.made(2, api.TNever))...)
			case 3:
				*p = faults[s.Below(len(faults))]
			case 4:
				*p = some.TypeTower(45+s.Below(8), *p)
			}
			one = some.CloneType(one) // faults' lists aren't to be changed
		}
		want := checked(one)
		count[want]++
		wantCheck(t, one, want)
	}
	if count[api.OK] < 1000 || count[api.ErrArg] < 1000 || count[api.ErrDeep] < 1000 {
		t.Error(count)
	}
}

func TestP11_1Attr(t *testing.T) {
	l := some.Attrs("b a? b? c a", num, text, ref, some.TSet(num), truly) // in any order, the first one
	l = append(l, api.Attr{Name: "", Type: yes, Optional: true})
	for name, place := range map[string]int{"b": 0, "a": 1, "c": 3, "": 5} {
		if a, ok := Attr(l, name); !ok || !some.EqualAttr(a, l[place]) {
			t.Errorf("Attr %q: %v, %t", name, a, ok)
		}
	}
	for _, name := range []string{"d", "A", "ab", "a ", "b\x00", "\xff"} {
		if a, ok := Attr(l, name); ok || !some.EqualAttr(a, api.Attr{}) || a.Type.Elem != nil || a.Type.Attrs != nil {
			t.Errorf("Attr %q: %v, %t", name, a, ok)
		}
	}
	for _, empty := range [][]api.Attr{nil, {}} {
		if a, ok := Attr(empty, ""); ok || !some.EqualAttr(a, api.Attr{}) {
			t.Error(a, ok)
		}
	}
	for _, one := range append(mayBes(), mayNotBes()...) {
		for _, a := range one.Attrs {
			if found, ok := Attr(one.Attrs, a.Name); !ok || found.Name != a.Name {
				t.Errorf("Attr of %v: %v, %t", one, found, ok)
			}
		}
	}
}

func TestP11_1Same(t *testing.T) {
	for name, all := range universes() {
		t.Run(name, func(t *testing.T) {
			for i, a := range all {
				for j, b := range all {
					wantSame(t, a, b, i == j)
				}
				wantSame(t, a, some.CloneType(a), true)
			}
		})
	}
	for _, unlike := range [][2]api.Type{
		{some.TRecord("a", num), some.TRecord("a?", num)},
		{some.TRecord("a", num), some.TRecord("a b", num, num)},
		{some.TRecord("a b", num, num), some.TRecord("a c", num, num)},
		{some.TRecord("a b?", num, num), some.TRecord("a? b", num, num)},
		{some.TRecord("a b", num, text), some.TRecord("a b", text, num)},
		{some.TRef("A"), some.TRef("a")}, {some.TRef("A"), some.TRef("A::A")}, {some.TRef("A"), some.TRef("")},
		{none, never}, {some.TSet(num), num}, {yes, truly}, {yes, no}, {some.TSet(yes), some.TSet(truly)},
	} {
		wantSame(t, unlike[0], unlike[1], false)
		wantSame(t, unlike[1], unlike[0], false)
	}
}

// TestP11_2Below holds which is below which against an oracle, of all short types.
func TestP11_2Below(t *testing.T) {
	for name, all := range universes() {
		t.Run(name, func(t *testing.T) {
			for i, row := range order(all) {
				for j, want := range row {
					wantBelow(t, all[i], all[j], want)
				}
			}
		})
	}
}

func TestP11_2Examples(t *testing.T) {
	for _, c := range []struct {
		a, b     api.Type
		up, down bool
	}{
		{never, num, true, false}, {never, none, true, false}, {never, never, true, true},
		{yes, truly, true, false}, {no, truly, true, false}, {yes, no, false, false}, {truly, truly, true, true}, {yes, yes, true, true},
		{num, text, false, false}, {truly, num, false, false}, {num, num, true, true}, {text, text, true, true},
		{ref, ref, true, true}, {ref, some.TRef("B"), false, false}, {ref, some.TRef("A::B"), false, false},
		{some.TSet(never), some.TSet(num), true, false}, {some.TSet(yes), some.TSet(truly), true, false}, {some.TSet(num), some.TSet(text), false, false}, {some.TSet(num), num, false, false},
		{none, none, true, true}, {none, some.TRecord("a?", num), false, false}, // as many attributes
		{some.TRecord("a", num), some.TRecord("a?", num), true, false},
		{some.TRecord("a", yes), some.TRecord("a?", truly), true, false},
		{some.TRecord("a?", yes), some.TRecord("a", truly), false, false},
		{some.TRecord("a", num), some.TRecord("b", num), false, false},
		{some.TRecord("a b", num, num), some.TRecord("a", num), false, false},
		{some.TRecord("a b", yes, no), some.TRecord("a b", truly, truly), true, false},
		{some.TRecord("a b", yes, truly), some.TRecord("a b", truly, no), false, false},
		{some.TRecord("a b?", num, num), some.TRecord("a? b", num, num), false, false},
		{some.TRecord("a b", num, num), some.TRecord("a b", num, text), false, false},
		{some.TRecord("a", some.TRecord("b", num)), some.TRecord("a", some.TRecord("b?", num)), true, false},
		{some.TRecord("a", never), some.TRecord("a", some.TSet(none)), true, false},
	} {
		wantBelow(t, c.a, c.b, c.up)
		wantBelow(t, c.b, c.a, c.down)
	}
}

// TestP11_3Join holds joins against an oracle, of all short types.
func TestP11_3Join(t *testing.T) {
	for name, all := range universes() {
		t.Run(name, func(t *testing.T) {
			below := order(all)
			for i, a := range all {
				for j, b := range all {
					if n := least(below, i, j); n < 0 {
						wantNoJoin(t, a, b)
					} else {
						wantJoin(t, a, b, all[n])
					}
				}
			}
		})
	}
}

func TestP11_3Examples(t *testing.T) {
	for _, c := range [][3]api.Type{
		{yes, no, truly}, // the document's example
		{yes, truly, truly}, {truly, no, truly}, {truly, truly, truly}, {yes, yes, yes}, {no, no, no},
		{never, never, never}, {never, num, num}, {never, some.TSet(never), some.TSet(never)},
		{some.TSet(yes), some.TSet(no), some.TSet(truly)},
		{some.TSet(some.TRecord("a", yes)), some.TSet(some.TRecord("a?", no)), some.TSet(some.TRecord("a?", truly))},
		{some.TRecord("a b?", yes, never), some.TRecord("a? b", no, num), some.TRecord("a? b?", truly, num)},
		{some.TRecord("a b", num, num), some.TRecord("a? b", num, num), some.TRecord("a? b", num, num)},
		{some.TRecord("a b?", num, num), some.TRecord("a? b", num, num), some.TRecord("a? b?", num, num)},
		{some.TRecord("a b", never, text), some.TRecord("a b", text, never), some.TRecord("a b", text, text)},
	} {
		wantJoin(t, c[0], c[1], c[2])
		wantJoin(t, c[1], c[0], c[2])
	}
	for _, c := range [][2]api.Type{
		{num, text}, // the document's example
		{num, truly}, {yes, num}, {ref, some.TRef("B")}, {ref, text}, {some.TSet(num), num}, {some.TSet(num), some.TSet(text)}, {none, some.TSet(never)},
		{none, some.TRecord("a", num)}, {none, some.TRecord("a?", num)}, {some.TRecord("a", num), some.TRecord("b", num)}, {some.TRecord("a", num), some.TRecord("a", text)},
		{some.TRecord("a b", yes, num), some.TRecord("a b", no, text)}, {some.TRecord("a b", num, yes), some.TRecord("a b", text, no)},
		{some.TRecord("a b", num, num), some.TRecord("a c", num, num)}, {some.TRecord("a", yes), some.TRecord("a b", no, num)},
		{some.TSet(some.TRecord("a", some.TSet(num))), some.TSet(some.TRecord("a", some.TSet(text)))},
	} {
		wantNoJoin(t, c[0], c[1])
		wantNoJoin(t, c[1], c[0])
	}
}

// TestP11_3OtherFields has types with something in what their kinds haven't: nothing hangs on it, and the one that the other is below is told as it is.
func TestP11_3OtherFields(t *testing.T) {
	s := &source{1181783497276652981}
	for name, all := range universes() {
		t.Run(name, func(t *testing.T) {
			for i := 0; i < len(all); i += 3 {
				for j := 1; j < len(all); j += 2 {
					otherFields(t, s, all[i], all[j])
				}
				otherFields(t, s, all[i], all[i])
			}
		})
	}
	// Of those that are within a join the same is so.
	a, b := api.Type{Kind: api.TInt, Name: "one"}, api.Type{Kind: api.TInt, Name: "two"}
	wantJoin(t, some.TRecord("a b", a, yes), some.TRecord("a b", b, no), some.TRecord("a b", b, truly))
	wantJoin(t, some.TSet(some.TRecord("a b", a, yes)), some.TSet(some.TRecord("a b", b, no)), some.TSet(some.TRecord("a b", b, truly)))
	wantJoin(t, api.Type{Kind: api.TTrue, Name: "x"}, api.Type{Kind: api.TFalse, Elem: []api.Type{num}}, truly)
	wantJoin(t, api.Type{Kind: api.TSet, Name: "x", Elem: []api.Type{yes}}, api.Type{Kind: api.TSet, Elem: []api.Type{no}, Attrs: some.Attrs("a", num)}, some.TSet(truly))
	wantJoin(t, api.Type{Kind: api.TRecord, Name: "x", Attrs: some.Attrs("a", yes)}, api.Type{Kind: api.TRecord, Elem: []api.Type{no}, Attrs: some.Attrs("a", no)}, some.TRecord("a", truly))
}

func otherFields(t *testing.T, s *source, a, b api.Type) {
	t.Helper()
	x, y := s.filled(a), s.filled(b)
	wantSame(t, x, y, Same(a, b))
	wantBelow(t, x, y, Below(a, b))
	want, err := Join(a, b)
	switch {
	case err != api.OK:
		wantNoJoin(t, x, y)
	case Below(a, b):
		wantJoin(t, x, y, y)
	case Below(b, a):
		wantJoin(t, x, y, x)
	default:
		if j, e := Join(x, y); e != api.OK || !Same(j, want) {
			t.Errorf("Join(%v, %v): %v, %d", x, y, j, e)
		}
	}
}

// TestP11_4Order has types that are made of others by steps, of which it is known which is below which.
func TestP11_4Order(t *testing.T) {
	s := &source{2685821657736338717}
	for i := range 20000 {
		a := s.made(1+i%6, api.TNever)
		b := s.widened(a)
		c := s.widened(s.widened(b))
		wantBelow(t, a, a, true)
		wantBelow(t, a, b, true)
		wantBelow(t, b, c, true)
		wantBelow(t, a, c, true)
		wantBelow(t, c, a, told(a) == told(c)) // two that are below each other are the same
		wantSame(t, a, c, told(a) == told(c))
		wantJoin(t, a, c, c)
		wantJoin(t, c, a, c)
	}
}

// TestP11_4Unlike has types that differ somewhere in such a way that nothing is above both.
func TestP11_4Unlike(t *testing.T) {
	s := &source{6364136223846793005}
	for i := range 20000 {
		a := s.made(1+i%6, api.TTrue)
		b := s.unlike(a)
		wantCheck(t, b, api.OK)
		wantSame(t, a, b, false)
		wantBelow(t, a, b, false)
		wantBelow(t, b, a, false)
		wantNoJoin(t, a, b)
		wantNoJoin(t, b, a)
	}
}

// TestP11_4Join has types that are below another one, which their join must be below then.
func TestP11_4Join(t *testing.T) {
	s := &source{3935559000370003845}
	apart := 0
	for i := range 20000 {
		low := s.made(1+i%6, api.TNever)
		a, b := low, low
		for range 4 {
			a, b = s.widened(a), s.widened(b)
		}
		j, e := Join(a, b)
		k, f := Join(b, a)
		if e != f || !Same(j, k) {
			t.Fatalf("Join(%v, %v): %v, %d; turned round %v, %d", a, b, j, e, k, f)
		}
		if e != api.OK { // where one is never it may have become two things of which there is none
			continue
		}
		wantCheck(t, j, api.OK)
		wantBelow(t, a, j, true)
		wantBelow(t, b, j, true)
		if !Below(a, b) && !Below(b, a) {
			apart++
		}
		for up, n := j, 0; n < 5; n++ {
			wantBelow(t, j, up, true)
			wantJoin(t, a, up, up)
			up = s.widened(up)
		}
	}
	if apart < 1000 {
		t.Error("few were apart:", apart)
	}
}

// TestP11_4Least has types with a common one above them: their join is there, and below it.
func TestP11_4Least(t *testing.T) {
	s := &source{1442695040888963407}
	for i := range 20000 {
		up := s.made(1+i%6, api.TTrue)
		a, b := s.narrowed(up), s.narrowed(up)
		j, e := Join(a, b)
		if e != api.OK || !Below(j, up) || !Below(a, j) || !Below(b, j) {
			t.Fatalf("Join(%v, %v): %v, %d, below %v", a, b, j, e, up)
		}
	}
}

// narrowed is a type that is narrower at some places.
func (s *source) narrowed(t api.Type) api.Type {
	t = some.CloneType(t)
	for range s.Below(5) {
		l := places(&t)
		p := l[s.Below(len(l))]
		switch n := len(p.Attrs); {
		case s.Below(4) == 0:
			*p = never
		case p.Kind == api.TBool:
			*p = some.Type(api.TTrue + s.Below(2))
		case n > 0:
			p.Attrs[s.Below(n)].Optional = false
		}
	}
	return t
}

// TestP11_2Deep has types that are as deep as they may be.
func TestP11_2Deep(t *testing.T) {
	tower := func(inner api.Type) api.Type { return some.TypeTower(api.MaxDepth, inner) }
	wantBelow(t, tower(yes), tower(truly), true)
	wantBelow(t, tower(truly), tower(yes), false)
	wantBelow(t, tower(never), tower(ref), true)
	wantBelow(t, tower(num), tower(text), false)
	wantSame(t, tower(ref), tower(ref), true)
	wantSame(t, tower(yes), tower(no), false)
	wantJoin(t, tower(yes), tower(no), tower(truly))
	wantJoin(t, tower(never), tower(num), tower(num))
	wantNoJoin(t, tower(num), tower(text))
	wantNoJoin(t, tower(num), some.TypeTower(api.MaxDepth-1, num))
}

// TestP11_2Wide has records of many attributes, of which the last ones differ.
func TestP11_2Wide(t *testing.T) {
	wide := func(last api.Attr) api.Type {
		var l []api.Attr
		for i := range 100000 {
			l = append(l, api.Attr{Name: fmt.Sprintf("a%06d", i), Type: num})
		}
		return api.Type{Kind: api.TRecord, Attrs: append(l, last)}
	}
	a, b, c := wide(api.Attr{Name: "b", Type: yes}), wide(api.Attr{Name: "b", Type: no, Optional: true}), wide(api.Attr{Name: "c", Type: yes})
	wantCheck(t, a, api.OK)
	wantSame(t, a, wide(api.Attr{Name: "b", Type: yes}), true)
	wantSame(t, a, b, false)
	wantBelow(t, a, b, false)
	wantBelow(t, a, c, false)
	wantJoin(t, a, b, wide(api.Attr{Name: "b", Type: truly, Optional: true}))
	wantNoJoin(t, a, c)
	if x, ok := Attr(b.Attrs, "b"); !ok || x.Type.Kind != api.TFalse || !x.Optional {
		t.Error(x, ok)
	}
	wantCheck(t, wide(api.Attr{Name: "a099999", Type: yes}), api.ErrArg)
}

func TestRulesUnchanged(t *testing.T) {
	s := &source{88172645463325252}
	for i := range 5000 {
		a := s.filled(s.made(1+i%4, api.TNever))
		b := s.filled(s.widened(a))
		if i%2 == 0 {
			b = s.filled(s.made(1+i%4, api.TNever))
		}
		c, d := some.CloneType(a), some.CloneType(b)
		Check(a)
		Same(a, b)
		Below(a, b)
		Join(a, b)
		Attr(a.Attrs, "a")
		if !some.EqualType(a, c) || !some.EqualType(b, d) {
			t.Fatalf("%v, %v were %v, %v", a, b, c, d)
		}
	}
}

// TestRulesRoom has lists with room behind them: nothing is written there.
func TestRulesRoom(t *testing.T) {
	elems, attrs := []api.Type{yes, text, text}, some.Attrs("a b c", no, text, text)
	a, b := api.Type{Kind: api.TSet, Elem: elems[:1], Attrs: attrs[:1]}, api.Type{Kind: api.TRecord, Elem: elems[:1], Attrs: attrs[:1]}
	for _, one := range []api.Type{a, b, some.TSet(a), some.TRecord("a", b)} {
		for _, other := range []api.Type{a, b, some.TSet(no), some.TRecord("a", yes), never} {
			wantCheck(t, one, api.OK)
			Same(one, other)
			Below(one, other)
			Join(one, other)
			Attr(one.Attrs, "b")
		}
	}
	for i := 1; i < 3; i++ {
		if !some.EqualType(elems[i], text) || !some.EqualType(attrs[i].Type, text) {
			t.Error(elems, attrs)
		}
	}
}

// TestRulesNewMemory changes what was handed in and what was answered: neither changes the other one.
func TestRulesNewMemory(t *testing.T) {
	s := &source{88172645463325252}
	joined := 0
	for i := range 5000 {
		low := s.made(1+i%4, api.TNever)
		a, b := s.filled(s.widened(low)), s.filled(s.widened(low))
		j, e := Join(a, b)
		if e != api.OK {
			continue
		}
		joined++
		c, d, k := some.CloneType(a), some.CloneType(b), some.CloneType(j)
		some.SpoilType(a)
		some.SpoilType(b)
		if !some.EqualType(j, k) {
			t.Fatalf("Join(%v, %v) changes with them", c, d)
		}
		j, _ = Join(c, d)
		a, b = some.CloneType(c), some.CloneType(d)
		some.SpoilType(j)
		if !some.EqualType(a, c) || !some.EqualType(b, d) {
			t.Fatalf("%v, %v change with their Join", a, b)
		}
	}
	if joined < 1000 {
		t.Error("few were joined:", joined)
	}
}

// TestRulesShared has a list at two places of a type: in an answer they are two.
func TestRulesShared(t *testing.T) {
	set := some.TSet(some.TRecord("a", num))
	for _, other := range []api.Type{never, some.TRecord("a b", set, set)} {
		j, e := Join(some.TRecord("a b", set, set), other)
		if e != api.OK {
			t.Fatal(e)
		}
		some.SpoilType(j.Attrs[0].Type)
		if !some.EqualType(j.Attrs[1].Type, some.TSet(some.TRecord("a", num))) {
			t.Error("one changes with the other", j)
		}
	}
}

// TestRulesEmpty has nil and empty lists, which are one.
func TestRulesEmpty(t *testing.T) {
	empty := api.Type{Kind: api.TRecord, Elem: []api.Type{}, Attrs: []api.Attr{}}
	wantSame(t, none, empty, true)
	wantBelow(t, none, empty, true)
	wantBelow(t, empty, none, true)
	wantJoin(t, none, empty, none)
	wantJoin(t, some.TRecord("a b", empty, yes), some.TRecord("a b", none, no), some.TRecord("a b", none, truly))
}

// TestRulesEnds has types that may not be, of which something must be answered.
func TestRulesEnds(t *testing.T) {
	l := append(rings(), mayNotBes()...)
	for _, depth := range []int{api.MaxDepth + 1, 2 * api.MaxDepth, 2*api.MaxDepth + 1, 1000, 1 << 16} {
		l = append(l, some.TypeTower(depth, yes), some.TypeTower(depth, no), some.TypeTower(depth, never))
	}
	l = append(l, mayBes()...)
	for _, a := range l {
		for _, b := range l {
			Same(a, b)
			Below(a, b)
			if j, e := Join(a, b); e != api.OK && (j.Kind != 0 || j.Name != "" || j.Elem != nil || j.Attrs != nil) {
				t.Errorf("Join: %.200s, %d", fmt.Sprint(j), e)
			}
		}
		Attr(a.Attrs, "a")
	}
}
