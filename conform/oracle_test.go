package conform

import (
	"slices"

	"chamberlain/api"
	"chamberlain/codec"
	"chamberlain/entity"
	"chamberlain/some"
	"chamberlain/value"
)

// key is a text of a value: one each for those that are the same, and none for what is no value.
func key(v api.Value) string {
	b, e := codec.Encode(v)
	if e != api.OK {
		return ""
	}
	return string(b)
}

// canon is a value as value.Canon tells it.
func canon(v api.Value) api.Value {
	c, e := value.Canon(v)
	if e != api.OK {
		panic("no value")
	}
	return c
}

// leaves are few values that have none within them.
func leaves() []api.Value {
	return []api.Value{some.Truth(true), some.Truth(false), some.Num(0), some.Text(""), some.Ref("", "a"), some.Ref("A", ""), some.Ref("A", "a"), some.Ref("A::B", "a")}
}

// sets are all sets of up to two of these.
func sets(items []api.Value) []api.Value {
	l := []api.Value{some.Set()}
	for i, a := range items {
		l = append(l, some.Set(a))
		for _, b := range items[:i] {
			l = append(l, canon(some.Set(a, b)))
		}
	}
	return l
}

// records are all records of these names, each one there with one of its items, or not there, if it needn't be.
func records(names []string, items func(place int) []api.Value, needed func(place int) bool) []api.Value {
	l := []api.Value{some.Record("")}
	for i, name := range names {
		var longer []api.Value
		for _, r := range l {
			if !needed(i) {
				longer = append(longer, r)
			}
			for _, item := range items(i) {
				with := some.Clone(r)
				with.Names, with.Items = append(with.Names, name), append(with.Items, item)
				longer = append(longer, with)
			}
		}
		l = longer
	}
	return l
}

// values are all values of the leaves, nested up to so deep, of sets of up to two, and of records of these names.
func values(levels int, all []api.Value, names ...string) []api.Value {
	if levels == 0 {
		return nil
	}
	less := values(levels-1, all, names...)
	l := append(slices.Clone(all), sets(less)...)
	return append(l, records(names, func(int) []api.Value { return less }, func(int) bool { return false })...)
}

// made are all those values that are of a type, by the document's words: an oracle. They are made by the type, not asked of it.
func made(levels int, all []api.Value, t api.Type) []api.Value {
	if levels == 0 {
		return nil
	}
	switch t.Kind {
	case api.TSet:
		return sets(made(levels-1, all, t.Elem[0]))
	case api.TRecord:
		var names []string
		for _, a := range t.Attrs {
			names = append(names, a.Name)
		}
		items := func(place int) []api.Value { return made(levels-1, all, t.Attrs[place].Type) }
		return records(names, items, func(place int) bool { return !t.Attrs[place].Optional })
	}
	var l []api.Value
	for _, v := range all {
		if leafOf(v, t) {
			l = append(l, v)
		}
	}
	return l
}

// leafOf tells whether one of the leaves is of a type.
func leafOf(v api.Value, t api.Type) bool {
	kinds := map[int]int{api.TTrue: api.Bool, api.TFalse: api.Bool, api.TBool: api.Bool, api.TInt: api.Int, api.TText: api.Text, api.TRef: api.Ref}
	return kinds[t.Kind] == v.Kind && (t.Kind != api.TTrue || v.Bool) && (t.Kind != api.TFalse || !v.Bool) && (t.Kind != api.TRef || v.Uid.Type == t.Name)
}

// ofType is Value by the document's words, of values and types of any size: an oracle that goes by pairs of what is left to be asked.
func ofType(v api.Value, t api.Type) bool {
	type pair struct {
		v api.Value
		t api.Type
	}
	for l := []pair{{v, t}}; len(l) > 0; l = l[1:] {
		v, t := l[0].v, l[0].t
		switch {
		case t.Kind == api.TSet && v.Kind == api.Set:
			for _, item := range v.Items {
				l = append(l, pair{item, t.Elem[0]})
			}
		case t.Kind == api.TRecord && v.Kind == api.Record:
			there := 0
			for _, a := range t.Attrs {
				if place := slices.Index(v.Names, a.Name); place >= 0 {
					there++
					l = append(l, pair{v.Items[place], a.Type})
				} else if !a.Optional {
					return false
				}
			}
			if there < len(v.Names) {
				return false
			}
		case !leafOf(v, t):
			return false
		}
	}
	return true
}

// stored is Store by the document's words: an oracle.
func stored(s api.Schema, l []api.Entity) api.Errno {
	rising, e := entity.Canon(l)
	if e != api.OK {
		return e
	}
	actions := 0
	for _, e := range rising {
		if e.Uid.Type == "Action" {
			if !actionStands(s, e) {
				return api.ErrConform
			}
			actions++
		} else if !typeTakes(s, e) {
			return api.ErrConform
		}
	}
	if actions < len(s.Actions) {
		return api.ErrConform
	}
	return api.OK
}

func actionStands(s api.Schema, e api.Entity) bool {
	for _, a := range s.Actions {
		if a.Id == e.Uid.Id {
			ids := slices.Clone(a.In)
			slices.Sort(ids)
			return slices.EqualFunc(e.Parents, slices.Compact(ids), func(u api.Uid, id string) bool { return u == api.Uid{Type: "Action", Id: id} }) && len(e.Attrs.Names) == 0
		}
	}
	return false
}

func typeTakes(s api.Schema, e api.Entity) bool {
	for _, t := range s.Types {
		if t.Name == e.Uid.Type {
			for _, parent := range e.Parents {
				if !slices.Contains(t.In, parent.Type) {
					return false
				}
			}
			return ofType(e.Attrs, api.Type{Kind: api.TRecord, Attrs: t.Attrs})
		}
	}
	return false
}

// requested is Request by the document's words: an oracle.
func requested(s api.Schema, q api.Request) api.Errno {
	for _, a := range s.Actions {
		if q.Action == (api.Uid{Type: "Action", Id: a.Id}) && slices.Contains(a.Principals, q.Principal.Type) && slices.Contains(a.Resources, q.Resource.Type) {
			c, e := value.Canon(q.Context)
			if e == api.OK && !ofType(c, api.Type{Kind: api.TRecord, Attrs: a.Context}) {
				return api.ErrConform
			}
			return e
		}
	}
	return api.ErrConform
}

// source makes what conforms, and spoils it, the same each time.
type source struct{ some.Source }

// within are all values that are nested in one, itself too, to be changed there.
func within(v *api.Value) []*api.Value {
	l := []*api.Value{v}
	for at := 0; at < len(l); at++ {
		for i := range l[at].Items {
			l = append(l, &l[at].Items[i])
		}
	}
	return l
}

// spoil changes a value at one place, so that it is of no such type any more, or of another one, or none.
func (s *source) spoil(v *api.Value) {
	l := within(v)
	one := l[s.Below(len(l))]
	n := len(one.Names)
	switch kind := s.Below(6); {
	case kind == 0:
		*one = leaves()[s.Below(8)]
	case kind == 1:
		*one = some.Set(some.Clone(*one))
	case kind == 2 && n > 0:
		one.Names[s.Below(n)] = []string{"", "a", "b", "c"}[s.Below(4)]
	case kind == 3 && n > 0:
		one.Names, one.Items = one.Names[:n-1], one.Items[:n-1]
	case kind == 4 && one.Kind == api.Record:
		one.Names, one.Items = append(one.Names, "b"), append(one.Items, leaves()[s.Below(8)])
	case s.Below(6) == 0:
		*one = []api.Value{{}, {Kind: api.Record, Names: []string{"a"}}, some.Tower(51, some.Num(1))}[s.Below(3)]
	}
}

// spoilAll changes entities at one place.
func (s *source) spoilAll(l []api.Entity) []api.Entity {
	if len(l) == 0 {
		return some.Entities([]string{"A/a", "Action/v", "Nobody/a"}[s.Below(3)])
	}
	i, j := s.Below(len(l)), s.Below(len(l))
	switch s.Below(8) {
	case 0:
		return slices.Delete(l, i, i+1)
	case 1:
		l = append(l, some.CloneAll(l[i:i+1])...)
		l[len(l)-1].Uid.Id += []string{"", "x"}[s.Below(2)]
	case 2:
		l[i].Uid.Type = []string{"A", "B", "Action", "Nobody", "a"}[s.Below(5)]
	case 3, 4:
		l[i].Parents = append(l[i].Parents, l[j].Uid)
	case 5:
		if n := len(l[i].Parents); n > 0 {
			l[i].Parents = l[i].Parents[:n-1]
		}
	default:
		s.spoil(&l[i].Attrs)
	}
	return l
}

// spoilRequest changes a request at one place.
func (s *source) spoilRequest(q *api.Request) {
	switch s.Below(5) {
	case 0:
		q.Action = []api.Uid{some.Uid("action/v"), some.Uid("Action/v"), some.Uid("Action/u"), some.Uid("A/v"), {Type: "Action"}}[s.Below(5)]
	case 1:
		q.Principal.Type = []string{"A", "B", "A::B", "Action", "_"}[s.Below(5)]
	case 2:
		q.Resource.Type = []string{"A", "B", "A::B", "Action", "_"}[s.Below(5)]
	default:
		s.spoil(&q.Context)
	}
}
