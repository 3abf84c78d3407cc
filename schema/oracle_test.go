package schema

import (
	"regexp"
	"slices"

	"chamberlain/api"
	"chamberlain/some"
)

// way leads from a name to another one.
type way struct{ low, high string }

// stepsOf are the ways of one step of a row of names with their In: of several of one name those of the first one.
func stepsOf(names []string, in [][]string) []way {
	var l []way
	for i, name := range names {
		if slices.Index(names, name) == i {
			for _, high := range in[i] {
				l = append(l, way{name, high})
			}
		}
	}
	return l
}

// waysOf are all ways of at least one step, by the document's words: an oracle. They become longer step by step, till there is no new one.
func waysOf(steps []way) map[way]bool {
	ways := map[way]bool{}
	for _, step := range steps {
		ways[step] = true
	}
	for before := 0; before < len(ways); {
		before = len(ways)
		longer := map[way]bool{}
		for known := range ways {
			longer[known] = true
			for _, step := range steps {
				if step.low == known.high {
					longer[way{known.low, step.high}] = true
				}
			}
		}
		ways = longer
	}
	return ways
}

// typeWays are the ways of a schema's types.
func typeWays(s api.Schema) map[way]bool {
	var in [][]string
	for _, t := range s.Types {
		in = append(in, t.In)
	}
	return waysOf(stepsOf(typeNames(s), in))
}

// actionWays are the ways of a schema's actions.
func actionWays(s api.Schema) map[way]bool {
	var in [][]string
	for _, a := range s.Actions {
		in = append(in, a.In)
	}
	return waysOf(stepsOf(actionIds(s), in))
}

func typeNames(s api.Schema) []string {
	var l []string
	for _, t := range s.Types {
		l = append(l, t.Name)
	}
	return l
}

func actionIds(s api.Schema) []string {
	var l []string
	for _, a := range s.Actions {
		l = append(l, a.Id)
	}
	return l
}

var path = regexp.MustCompile(`^[A-Za-z_][A-Za-z_0-9]*(::[A-Za-z_][A-Za-z_0-9]*)*$`)

// checked is Check by the document's words: an oracle.
func checked(s api.Schema) api.Errno {
	names, ids := typeNames(s), actionIds(s)
	if twice(names) || twice(ids) {
		return api.ErrTwice
	}
	for _, t := range s.Types {
		if !path.MatchString(t.Name) || t.Name == "Action" || !among(t.In, names) || !rowStands(t.Attrs, names) {
			return api.ErrSchema
		}
	}
	for _, a := range s.Actions {
		if !among(a.In, ids) || !among(a.Principals, names) || !among(a.Resources, names) || !rowStands(a.Context, names) {
			return api.ErrSchema
		}
	}
	for known := range actionWays(s) {
		if known.low == known.high {
			return api.ErrCycle
		}
	}
	return api.OK
}

func twice(l []string) bool {
	for i, one := range l {
		if slices.Contains(l[:i], one) {
			return true
		}
	}
	return false
}

func among(l, names []string) bool {
	for _, one := range l {
		if !slices.Contains(names, one) {
			return false
		}
	}
	return true
}

// rowStands tells whether a row of attributes may be, type by type of all that are nested in it.
func rowStands(row []api.Attr, names []string) bool {
	type nested struct {
		api.Type
		level int
	}
	for l := []nested{{api.Type{Kind: api.TRecord, Attrs: row}, 1}}; len(l) > 0; l = l[1:] {
		one := l[0]
		if one.level > 50 || !slices.Contains([]int{3, 4, 5, 6, 7, 8}, one.Kind) {
			return false
		}
		if one.Kind == 7 && len(one.Elem) != 1 || one.Kind == 6 && !slices.Contains(names, one.Name) {
			return false
		}
		for _, elem := range one.Elem {
			l = append(l, nested{elem, one.level + 1})
		}
		for i, a := range one.Attrs {
			for _, ahead := range one.Attrs[:i] {
				if ahead.Name >= a.Name {
					return false
				}
			}
			l = append(l, nested{a.Type, one.level + 1})
		}
	}
	return true
}

// graphs are all ways to give each of n names a list of some of them as its In.
func graphs(names []string) [][][]string {
	var lists [][]string
	for set := range 1 << len(names) {
		var l []string
		for i, name := range names {
			if set>>i&1 == 1 {
				l = append(l, name)
			}
		}
		lists = append(lists, l)
	}
	all := [][][]string{nil}
	for range names {
		var longer [][][]string
		for _, rows := range all {
			for _, l := range lists {
				longer = append(longer, append(slices.Clone(rows), l))
			}
		}
		all = longer
	}
	return all
}

// typesOf is a schema of types with their In.
func typesOf(names []string, in [][]string) api.Schema {
	var s api.Schema
	for i, name := range names {
		s.Types = append(s.Types, api.EntityType{Name: name, In: in[i]})
	}
	return s
}

// actionsOf is a schema of actions with their In.
func actionsOf(ids []string, in [][]string) api.Schema {
	var s api.Schema
	for i, id := range ids {
		s.Actions = append(s.Actions, api.ActionType{Id: id, In: in[i]})
	}
	return s
}

// source makes schemas, the same ones each time.
type source struct{ x uint64 }

func (s *source) below(n int) int {
	s.x ^= s.x << 13
	s.x ^= s.x >> 7
	s.x ^= s.x << 17
	return int(s.x >> 33 % uint64(n))
}

// pick are some of the names, in any order, now and then one several times.
func (s *source) pick(names []string) []string {
	var l []string
	for range s.below(3) {
		if len(names) > 0 {
			l = append(l, names[s.below(len(names))])
		}
	}
	return l
}

// made is a type that may be an attribute's, nested up to so deep, of the types of these names.
func (s *source) made(levels int, names []string) api.Type {
	switch kind := api.TBool + s.below(6); {
	case kind == api.TRef && len(names) > 0:
		return some.TRef(names[s.below(len(names))])
	case kind == api.TSet && levels > 1:
		return some.TSet(s.made(levels-1, names))
	case kind == api.TRecord:
		return api.Type{Kind: kind, Attrs: s.row(levels-1, names)}
	default:
		return some.Type(api.TBool + kind%3)
	}
}

// row is a row of attributes that may be, nested up to so deep.
func (s *source) row(levels int, names []string) []api.Attr {
	var l []api.Attr
	for _, name := range []string{"", "a", "b"} {
		if levels > 0 && s.below(2) == 0 {
			l = append(l, api.Attr{Name: name, Type: s.made(levels, names), Optional: s.below(2) == 0})
		}
	}
	return l
}

// schema is one that may be.
func (s *source) schema() api.Schema {
	names := []string{"A", "B", "A::B", "_", "a1"}[:s.below(6)]
	ids := []string{"v", "", "w w", "Action", "A", "\xff"}[:s.below(7)]
	var made api.Schema
	for _, name := range names {
		made.Types = append(made.Types, api.EntityType{Name: name, In: s.pick(names), Attrs: s.row(3, names)})
	}
	for i, id := range ids {
		made.Actions = append(made.Actions, api.ActionType{Id: id, In: s.pick(ids[:i]), Principals: s.pick(names), Resources: s.pick(names), Context: s.row(3, names)})
	}
	s.mix(len(made.Types), func(i, j int) { made.Types[i], made.Types[j] = made.Types[j], made.Types[i] })
	s.mix(len(made.Actions), func(i, j int) { made.Actions[i], made.Actions[j] = made.Actions[j], made.Actions[i] })
	return made
}

func (s *source) mix(n int, swap func(i, j int)) {
	for i := range n {
		swap(i, s.below(i+1))
	}
}

// names are all places of a schema where one stands: of types, actions, what they are in, and what they are for.
func names(s api.Schema) []*string {
	var l []*string
	list := func(of []string) {
		for i := range of {
			l = append(l, &of[i])
		}
	}
	for i := range s.Types {
		l = append(l, &s.Types[i].Name)
		list(s.Types[i].In)
	}
	for i := range s.Actions {
		l = append(l, &s.Actions[i].Id)
		list(s.Actions[i].In)
		list(s.Actions[i].Principals)
		list(s.Actions[i].Resources)
	}
	return l
}

// rows are all rows of attributes of a schema.
func rows(s api.Schema) []*[]api.Attr {
	var l []*[]api.Attr
	for i := range s.Types {
		l = append(l, &s.Types[i].Attrs)
	}
	for i := range s.Actions {
		l = append(l, &s.Actions[i].Context)
	}
	return l
}

// nested are all types that are nested in a row, to be changed there.
func nested(row []api.Attr) []*api.Type {
	var l []*api.Type
	for i := range row {
		l = append(l, &row[i].Type)
	}
	for at := 0; at < len(l); at++ {
		for i := range l[at].Elem {
			l = append(l, &l[at].Elem[i])
		}
		for i := range l[at].Attrs {
			l = append(l, &l[at].Attrs[i].Type)
		}
	}
	return l
}
