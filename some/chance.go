package some

import (
	"slices"

	"chamberlain/api"
)

// Source is one of chance: from one number on, which isn't 0, the same things are made each time.
type Source uint64

// Below is a number from 0 on, below n.
func (s *Source) Below(n int) int {
	*s ^= *s << 13
	*s ^= *s >> 7
	*s ^= *s << 17
	return int(uint64(*s) >> 33 % uint64(n))
}

// Mix puts what is swapped in any order.
func (s *Source) Mix(n int, swap func(i, j int)) {
	for i := range n {
		swap(i, s.Below(i+1))
	}
}

// Schema is one that may be.
func (s *Source) Schema() api.Schema {
	names := []string{"A", "B", "A::B", "_", "a1"}[:s.Below(6)]
	ids := []string{"v", "", "w w", "Action", "A", "\xff"}[:s.Below(7)]
	var made api.Schema
	for _, name := range names {
		made.Types = append(made.Types, api.EntityType{Name: name, In: s.pick(names), Attrs: s.row(3, names)})
	}
	for i, id := range ids {
		made.Actions = append(made.Actions, api.ActionType{Id: id, In: s.pick(ids[:i]), Principals: s.pick(names), Resources: s.pick(names), Context: s.row(3, names)})
	}
	s.Mix(len(made.Types), func(i, j int) { made.Types[i], made.Types[j] = made.Types[j], made.Types[i] })
	s.Mix(len(made.Actions), func(i, j int) { made.Actions[i], made.Actions[j] = made.Actions[j], made.Actions[i] })
	return made
}

// pick are some of the names, in any order, now and then one several times.
func (s *Source) pick(names []string) []string {
	var l []string
	for range s.Below(3) {
		if len(names) > 0 {
			l = append(l, names[s.Below(len(names))])
		}
	}
	return l
}

// attrType is a type that may be an attribute's, nested up to so deep, of the types of these names.
func (s *Source) attrType(levels int, names []string) api.Type {
	switch kind := api.TBool + s.Below(6); {
	case kind == api.TRef && len(names) > 0:
		return TRef(names[s.Below(len(names))])
	case kind == api.TSet && levels > 1:
		return TSet(s.attrType(levels-1, names))
	case kind == api.TRecord:
		return api.Type{Kind: kind, Attrs: s.row(levels-1, names)}
	default:
		return Type(api.TBool + kind%3)
	}
}

// row is a row of attributes that may be, nested up to so deep.
func (s *Source) row(levels int, names []string) []api.Attr {
	var l []api.Attr
	for _, name := range []string{"", "a", "b"} {
		if levels > 0 && s.Below(2) == 0 {
			l = append(l, api.Attr{Name: name, Type: s.attrType(levels, names), Optional: s.Below(2) == 0})
		}
	}
	return l
}

// Value is one of a type that such attributes have, its names and items in any order.
func (s *Source) Value(t api.Type) api.Value {
	few := []string{"", "a", "b", "\xff"}
	switch t.Kind {
	case api.TBool:
		return Truth(s.Below(2) == 0)
	case api.TInt:
		return Num(int64(s.Below(5) - 2))
	case api.TText:
		return Text(few[s.Below(len(few))])
	case api.TRef:
		return Ref(t.Name, few[s.Below(len(few))])
	case api.TSet:
		set := Set()
		for range s.Below(4) {
			set.Items = append(set.Items, s.Value(t.Elem[0]))
		}
		return set
	}
	return s.record(t.Attrs)
}

// record has all attributes that it must have, and some others.
func (s *Source) record(l []api.Attr) api.Value {
	r := Record("")
	for _, a := range l {
		if !a.Optional || s.Below(2) == 0 {
			r.Names, r.Items = append(r.Names, a.Name), append(r.Items, s.Value(a.Type))
		}
	}
	s.Mix(len(r.Names), func(i, j int) {
		r.Names[i], r.Names[j] = r.Names[j], r.Names[i]
		r.Items[i], r.Items[j] = r.Items[j], r.Items[i]
	})
	return r
}

// Entities are a schema's actions, and some that its types take, in any order.
func (s *Source) Entities(made api.Schema) []api.Entity {
	var l []api.Entity
	for i := range s.Below(7) {
		if len(made.Types) > 0 {
			t := made.Types[s.Below(len(made.Types))]
			e := api.Entity{Uid: api.Uid{Type: t.Name, Id: []string{"", "a", "b"}[i%3] + []string{"", "\xff", "c"}[i/3]}, Attrs: s.record(t.Attrs)}
			for _, parent := range l {
				if slices.Contains(t.In, parent.Uid.Type) && s.Below(2) == 0 {
					e.Parents = append(e.Parents, parent.Uid)
				}
			}
			l = append(l, e)
		}
	}
	for _, a := range made.Actions {
		e := api.Entity{Uid: api.Uid{Type: "Action", Id: a.Id}, Attrs: Record("")}
		for _, id := range a.In {
			e.Parents = append(e.Parents, api.Uid{Type: "Action", Id: id})
		}
		l = append(l, e)
	}
	s.Mix(len(l), func(i, j int) { l[i], l[j] = l[j], l[i] })
	return l
}

// Request is one that a schema takes; false: it takes none of an action that was picked.
func (s *Source) Request(made api.Schema) (api.Request, bool) {
	if len(made.Actions) == 0 {
		return api.Request{}, false
	}
	a := made.Actions[s.Below(len(made.Actions))]
	if len(a.Principals) == 0 || len(a.Resources) == 0 {
		return api.Request{}, false
	}
	return api.Request{
		Principal: api.Uid{Type: a.Principals[s.Below(len(a.Principals))], Id: "a"},
		Action:    api.Uid{Type: "Action", Id: a.Id},
		Resource:  api.Uid{Type: a.Resources[s.Below(len(a.Resources))], Id: "b"},
		Context:   s.record(a.Context),
	}, true
}
