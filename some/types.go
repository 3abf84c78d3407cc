package some

import (
	"slices"
	"strings"

	"chamberlain/api"
)

// Type is one of that Kind, with nothing else.
func Type(kind int) api.Type { return api.Type{Kind: kind} }

// TRef is the type of the entities of that Type.
func TRef(name string) api.Type { return api.Type{Kind: api.TRef, Name: name} }

// TSet is the type of sets of that type.
func TSet(elem api.Type) api.Type { return api.Type{Kind: api.TSet, Elem: []api.Type{elem}} }

// TRecord is the type of records with the attributes that are told as by Attrs.
func TRecord(names string, l ...api.Type) api.Type {
	return api.Type{Kind: api.TRecord, Attrs: Attrs(names, l...)}
}

// Attrs have the names that are told with blanks between them; one with a question mark behind it is Optional.
func Attrs(names string, l ...api.Type) []api.Attr {
	var attrs []api.Attr
	for i, told := range strings.Fields(names) {
		name, optional := strings.CutSuffix(told, "?")
		attrs = append(attrs, api.Attr{Name: name, Type: l[i], Optional: optional})
	}
	return attrs
}

// TypeTower is a type nested that deep: sets and records by turns, around the innermost one.
func TypeTower(depth int, innermost api.Type) api.Type {
	t := innermost
	for i := range depth - 1 {
		if i%2 == 0 {
			t = TSet(t)
		} else {
			t = TRecord("a", t)
		}
	}
	return t
}

// AllTypes are all types nested up to so deep: the leaves, and sets and records (of attributes of these names) of what is less deep.
func AllTypes(levels int, leaves []api.Type, names ...string) []api.Type {
	if levels == 0 {
		return nil
	}
	less := AllTypes(levels-1, leaves, names...)
	all := slices.Clone(leaves)
	for _, t := range less {
		all = append(all, TSet(t))
	}
	rows := [][]api.Attr{nil}
	for _, name := range names {
		for _, row := range slices.Clone(rows) {
			for _, t := range less {
				for _, optional := range []bool{false, true} {
					rows = append(rows, append(slices.Clone(row), api.Attr{Name: name, Type: t, Optional: optional}))
				}
			}
		}
	}
	for _, row := range rows {
		all = append(all, api.Type{Kind: api.TRecord, Attrs: row})
	}
	return all
}

// EqualType tells whether two types are alike in all fields; nil and empty lists are.
func EqualType(a, b api.Type) bool {
	return a.Kind == b.Kind && a.Name == b.Name && slices.EqualFunc(a.Elem, b.Elem, EqualType) && slices.EqualFunc(a.Attrs, b.Attrs, EqualAttr)
}

// EqualAttr tells whether two attributes are alike in all fields; nil and empty lists are.
func EqualAttr(a, b api.Attr) bool {
	return a.Name == b.Name && a.Optional == b.Optional && EqualType(a.Type, b.Type)
}

// CloneType is the same type in other memory, to the last field.
func CloneType(t api.Type) api.Type {
	t.Elem, t.Attrs = slices.Clone(t.Elem), slices.Clone(t.Attrs)
	for i := range t.Elem {
		t.Elem[i] = CloneType(t.Elem[i])
	}
	for i := range t.Attrs {
		t.Attrs[i].Type = CloneType(t.Attrs[i].Type)
	}
	return t
}

// SpoilType overwrites all that a type's lists hold, and what there is room for behind them.
func SpoilType(t api.Type) {
	for _, elem := range t.Elem {
		SpoilType(elem)
	}
	for _, a := range t.Attrs {
		SpoilType(a.Type)
	}
	elems, attrs := t.Elem[:cap(t.Elem)], t.Attrs[:cap(t.Attrs)]
	for i := range elems {
		elems[i] = TRef("spoilt")
	}
	for i := range attrs {
		attrs[i] = api.Attr{Name: "spoilt", Type: TRef("spoilt")}
	}
}
