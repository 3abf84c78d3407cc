package schema

import (
	"regexp"
	"slices"

	"chamberlain/api"
	"chamberlain/some"
)

// way leads from a name to another one.
type way struct{ low, high string }

// stepsOf are the ways of one step of a row of names with their In: of several of one name those of the first one.
func stepsOf(names []string, in [][]string) []way {
	var l []way
	for i, name := range names {
		if slices.Index(names, name) == i {
			for _, high := range in[i] {
				l = append(l, way{name, high})
			}
		}
	}
	return l
}

// waysOf are all ways of at least one step, by the document's words: an oracle. They become longer step by step, till there is no new one.
func waysOf(steps []way) map[way]bool {
	ways := map[way]bool{}
	for _, step := range steps {
		ways[step] = true
	}
	for before := 0; before < len(ways); {
		before = len(ways)
		longer := map[way]bool{}
		for known := range ways {
			longer[known] = true
			for _, step := range steps {
				if step.low == known.high {
					longer[way{known.low, step.high}] = true
				}
			}
		}
		ways = longer
	}
	return ways
}

// typeWays are the ways of a schema's types.
func typeWays(s api.Schema) map[way]bool {
	var in [][]string
	for _, t := range s.Types {
		in = append(in, t.In)
	}
	return waysOf(stepsOf(typeNames(s), in))
}

// actionWays are the ways of a schema's actions.
func actionWays(s api.Schema) map[way]bool {
	var in [][]string
	for _, a := range s.Actions {
		in = append(in, a.In)
	}
	return waysOf(stepsOf(actionIds(s), in))
}

func typeNames(s api.Schema) []string {
	var l []string
	for _, t := range s.Types {
		l = append(l, t.Name)
	}
	return l
}

func actionIds(s api.Schema) []string {
	var l []string
	for _, a := range s.Actions {
		l = append(l, a.Id)
	}
	return l
}

var path = regexp.MustCompile(`^[A-Za-z_][A-Za-z_0-9]*(::[A-Za-z_][A-Za-z_0-9]*)*$`)

// checked is Check by the document's words: an oracle.
func checked(s api.Schema) api.Errno {
	names, ids := typeNames(s), actionIds(s)
	if twice(names) || twice(ids) {
		return api.ErrTwice
	}
	for _, t := range s.Types {
		if !path.MatchString(t.Name) || t.Name == "Action" || !among(t.In, names) || !rowStands(t.Attrs, names) {
			return api.ErrSchema
		}
	}
	for _, a := range s.Actions {
		if !among(a.In, ids) || !among(a.Principals, names) || !among(a.Resources, names) || !rowStands(a.Context, names) {
			return api.ErrSchema
		}
	}
	for known := range actionWays(s) {
		if known.low == known.high {
			return api.ErrCycle
		}
	}
	return api.OK
}

func twice(l []string) bool {
	for i, one := range l {
		if slices.Contains(l[:i], one) {
			return true
		}
	}
	return false
}

func among(l, names []string) bool {
	for _, one := range l {
		if !slices.Contains(names, one) {
			return false
		}
	}
	return true
}

// rowStands tells whether a row of attributes may be, type by type of all that are nested in it.
func rowStands(row []api.Attr, names []string) bool {
	type nested struct {
		api.Type
		level int
	}
	for l := []nested{{api.Type{Kind: api.TRecord, Attrs: row}, 1}}; len(l) > 0; l = l[1:] {
		one := l[0]
		if one.level > 50 || !slices.Contains([]int{3, 4, 5, 6, 7, 8}, one.Kind) {
			return false
		}
		if one.Kind == 7 && len(one.Elem) != 1 || one.Kind == 6 && !slices.Contains(names, one.Name) {
			return false
		}
		for _, elem := range one.Elem {
			l = append(l, nested{elem, one.level + 1})
		}
		for i, a := range one.Attrs {
			for _, ahead := range one.Attrs[:i] {
				if ahead.Name >= a.Name {
					return false
				}
			}
			l = append(l, nested{a.Type, one.level + 1})
		}
	}
	return true
}

// graphs are all ways to give each of n names a list of some of them as its In.
func graphs(names []string) [][][]string {
	var lists [][]string
	for set := range 1 << len(names) {
		var l []string
		for i, name := range names {
			if set>>i&1 == 1 {
				l = append(l, name)
			}
		}
		lists = append(lists, l)
	}
	all := [][][]string{nil}
	for range names {
		var longer [][][]string
		for _, rows := range all {
			for _, l := range lists {
				longer = append(longer, append(slices.Clone(rows), l))
			}
		}
		all = longer
	}
	return all
}

// typesOf is a schema of types with their In.
func typesOf(names []string, in [][]string) api.Schema {
	var s api.Schema
	for i, name := range names {
		s.Types = append(s.Types, api.EntityType{Name: name, In: in[i]})
	}
	return s
}

// actionsOf is a schema of actions with their In.
func actionsOf(ids []string, in [][]string) api.Schema {
	var s api.Schema
	for i, id := range ids {
		s.Actions = append(s.Actions, api.ActionType{Id: id, In: in[i]})
	}
	return s
}

// source makes schemas, and spoils them, the same ones each time.
type source struct{ some.Source }

// names are all places of a schema where one stands: of types, actions, what they are in, and what they are for.
func names(s api.Schema) []*string {
	var l []*string
	list := func(of []string) {
		for i := range of {
			l = append(l, &of[i])
		}
	}
	for i := range s.Types {
		l = append(l, &s.Types[i].Name)
		list(s.Types[i].In)
	}
	for i := range s.Actions {
		l = append(l, &s.Actions[i].Id)
		list(s.Actions[i].In)
		list(s.Actions[i].Principals)
		list(s.Actions[i].Resources)
	}
	return l
}

// rows are all rows of attributes of a schema.
func rows(s api.Schema) []*[]api.Attr {
	var l []*[]api.Attr
	for i := range s.Types {
		l = append(l, &s.Types[i].Attrs)
	}
	for i := range s.Actions {
		l = append(l, &s.Actions[i].Context)
	}
	return l
}

// nested are all types that are nested in a row, to be changed there.
func nested(row []api.Attr) []*api.Type {
	var l []*api.Type
	for i := range row {
		l = append(l, &row[i].Type)
	}
	for at := 0; at < len(l); at++ {
		for i := range l[at].Elem {
			l = append(l, &l[at].Elem[i])
		}
		for i := range l[at].Attrs {
			l = append(l, &l[at].Attrs[i].Type)
		}
	}
	return l
}
