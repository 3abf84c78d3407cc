package types

import (
	"slices"
	"strconv"

	"chamberlain/api"
	"chamberlain/some"
)

// told is a text of what the document says of a type: one each for those that are the same.
func told(t api.Type) string {
	s := strconv.Itoa(t.Kind)
	switch t.Kind {
	case api.TRef:
		s += strconv.Quote(t.Name)
	case api.TSet:
		s += "<" + told(t.Elem[0]) + ">"
	case api.TRecord:
		for _, a := range t.Attrs {
			s += "(" + strconv.Quote(a.Name) + strconv.FormatBool(a.Optional) + told(a.Type) + ")"
		}
	}
	return s
}

// universes are types that may be, none of which are the same: with two attributes, and nested deeper.
func universes() map[string][]api.Type {
	truths := []api.Type{{}, some.Type(api.TTrue), some.Type(api.TFalse), some.Type(api.TBool)}
	return map[string][]api.Type{
		"wide": some.AllTypes(2, append(slices.Clone(truths), some.Type(api.TInt), some.Type(api.TText), some.TRef(""), some.TRef("A"), some.TRef("A::B")), "a", "b"),
		"deep": some.AllTypes(4, append(slices.Clone(truths), some.TRef("A")), "a"),
	}
}

// wider are the types that a type becomes, if it is made less narrow at one place, one of its many ways: what is never there may be anything of the universe.
func wider(t api.Type, all []api.Type) []api.Type {
	switch t.Kind {
	case api.TNever:
		return all
	case api.TTrue, api.TFalse:
		return []api.Type{some.Type(api.TBool)}
	case api.TSet:
		var l []api.Type
		for _, elem := range wider(t.Elem[0], all) {
			l = append(l, some.TSet(elem))
		}
		return l
	case api.TRecord:
		return widerRecords(t, all)
	}
	return nil
}

func widerRecords(t api.Type, all []api.Type) []api.Type {
	var l []api.Type
	with := func(i int, a api.Attr) {
		attrs := slices.Clone(t.Attrs)
		attrs[i] = a
		l = append(l, api.Type{Kind: api.TRecord, Attrs: attrs})
	}
	for i, a := range t.Attrs {
		if !a.Optional {
			with(i, api.Attr{Name: a.Name, Type: a.Type, Optional: true})
		}
		for _, inner := range wider(a.Type, all) {
			with(i, api.Attr{Name: a.Name, Type: inner, Optional: a.Optional})
		}
	}
	return l
}

// order is which type of a universe is below which, by their numbers: an oracle. What is below another one becomes it by steps.
func order(all []api.Type) [][]bool {
	number := map[string]int{}
	for i, t := range all {
		number[told(t)] = i
	}
	var below [][]bool
	for i := range all {
		row := make([]bool, len(all))
		row[i] = true
		reached := []int{i}
		for at := 0; at < len(reached); at++ {
			for _, t := range wider(all[reached[at]], all) {
				if n, found := number[told(t)]; found && !row[n] {
					row[n] = true
					reached = append(reached, n)
				}
			}
		}
		below = append(below, row)
	}
	return below
}

// least is the type of a universe that two of it are below, and that is below all such; -1: there is none such. It is an oracle of joins.
func least(below [][]bool, i, j int) int {
	found := -1
	for n := range below {
		if below[i][n] && below[j][n] && (found < 0 || below[n][found]) {
			found = n
		}
	}
	return found
}

// checked is Check by the document's words, type by type of all that are nested in one: an oracle.
func checked(t api.Type) api.Errno {
	type nested struct {
		api.Type
		level int
	}
	err := api.OK
	for l := []nested{{t, 1}}; len(l) > 0; l = l[1:] {
		one := l[0]
		if one.level > api.MaxDepth {
			return api.ErrDeep
		}
		if !slices.Contains([]int{0, 1, 2, 3, 4, 5, 6, 7, 8}, one.Kind) || one.Kind == api.TSet && len(one.Elem) != 1 {
			err = api.ErrArg
		}
		for _, elem := range one.Elem {
			l = append(l, nested{elem, one.level + 1})
		}
		for i, a := range one.Attrs {
			for _, ahead := range one.Attrs[:i] {
				if ahead.Name >= a.Name {
					err = api.ErrArg
				}
			}
			l = append(l, nested{a.Type, one.level + 1})
		}
	}
	return err
}

// source makes types, the same ones each time.
type source struct{ some.Source }

// kind is one of few Kinds, from the lowest one that is wanted on; sets and records are many, if there are levels for them.
func (s *source) kind(levels, lowest int) int {
	if levels > 1 && s.Below(2) == 0 {
		return api.TSet + s.Below(2)
	}
	return lowest + s.Below(api.TSet-lowest)
}

// made is a type that may be, nested up to so deep; of lowest and higher Kinds alone.
func (s *source) made(levels, lowest int) api.Type {
	switch kind := s.kind(levels, lowest); kind {
	case api.TRef:
		return some.TRef([]string{"A", "A::B", ""}[s.Below(3)])
	case api.TSet:
		return some.TSet(s.made(levels-1, lowest))
	case api.TRecord:
		t := some.Type(kind)
		for _, name := range []string{"", "a", "ab", "b", "\xff"} {
			if s.Below(2) == 0 {
				t.Attrs = append(t.Attrs, api.Attr{Name: name, Type: s.made(levels-1, lowest), Optional: s.Below(2) == 0})
			}
		}
		return t
	default:
		return some.Type(kind)
	}
}

// places are all types nested in one, itself too, to be changed there.
func places(t *api.Type) []*api.Type {
	l := []*api.Type{t}
	for i := range t.Elem {
		l = append(l, places(&t.Elem[i])...)
	}
	for i := range t.Attrs {
		l = append(l, places(&t.Attrs[i].Type)...)
	}
	return l
}

// widened is a type that is less narrow at one place, or the same one.
func (s *source) widened(t api.Type) api.Type {
	t = some.CloneType(t)
	l := places(&t)
	switch p := l[s.Below(len(l))]; p.Kind {
	case api.TNever:
		*p = s.made(2, api.TNever)
	case api.TTrue, api.TFalse:
		*p = some.Type(api.TBool)
	case api.TRecord:
		if n := len(p.Attrs); n > 0 {
			p.Attrs[s.Below(n)].Optional = true
		}
	}
	return t
}

// unlike is a type that is of another kind at one place, so that nothing has both, if nothing in it is TNever.
func (s *source) unlike(t api.Type) api.Type {
	t = some.CloneType(t)
	l := places(&t)
	switch p := l[s.Below(len(l))]; p.Kind {
	case api.TInt:
		*p = some.Type(api.TText)
	case api.TRef:
		p.Name += "x"
	case api.TSet:
		p.Kind, p.Elem = api.TRecord, nil
	case api.TRecord:
		p.Attrs = s.unlikeAttrs(p.Attrs)
	default:
		*p = some.Type(api.TInt)
	}
	return t
}

// unlikeAttrs have a name more, or less, or another one.
func (s *source) unlikeAttrs(l []api.Attr) []api.Attr {
	n := len(l)
	more := s.Below(3)
	switch {
	case n == 0 || more == 0:
		return append(l, api.Attr{Name: "\xff\xff", Type: some.Type(api.TInt), Optional: true})
	case more == 1:
		return slices.Delete(l, n-1, n)
	default:
		l[n-1].Name += "\x00"
		return l
	}
}

// filled is the same type with something in the fields that its Kind hasn't, and that says nothing of it.
func (s *source) filled(t api.Type) api.Type {
	t = some.CloneType(t)
	for _, p := range places(&t) {
		if p.Kind != api.TRef {
			p.Name = string(rune('a' + s.Below(26)))
		}
		if p.Kind != api.TSet {
			for range s.Below(3) {
				p.Elem = append(p.Elem, s.made(2, api.TNever))
			}
		}
		if p.Kind != api.TRecord && s.Below(2) == 0 {
			p.Attrs = some.Attrs("x y?", s.made(2, api.TNever), s.made(2, api.TNever))
		}
	}
	return t
}
