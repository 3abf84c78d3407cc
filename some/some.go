// Package some makes values, and holds them against each other, for the tests of all layers. No layer calls it.
package some

import (
	"slices"
	"strings"

	"chamberlain/api"
)

// Truth is one of kind Bool.
func Truth(b bool) api.Value { return api.Value{Kind: api.Bool, Bool: b} }

// Num is one of kind Int.
func Num(n int64) api.Value { return api.Value{Kind: api.Int, Int: n} }

// Text is one of kind Text.
func Text(s string) api.Value { return api.Value{Kind: api.Text, Text: s} }

// Ref is one of kind Ref.
func Ref(typ, id string) api.Value {
	return api.Value{Kind: api.Ref, Uid: api.Uid{Type: typ, Id: id}}
}

// Set has the items in the order in which they are told.
func Set(items ...api.Value) api.Value { return api.Value{Kind: api.Set, Items: items} }

// Record has the names that are told with blanks between them.
func Record(names string, items ...api.Value) api.Value {
	return api.Value{Kind: api.Record, Names: strings.Fields(names), Items: items}
}

// Tower is a value of that Depth: sets and records by turns, around the innermost one.
func Tower(depth int, innermost api.Value) api.Value {
	v := innermost
	for i := range depth - 1 {
		if i%2 == 0 {
			v = Set(v)
		} else {
			v = Record("a", v)
		}
	}
	return v
}

// Clone is the same value in other memory, to the last field.
func Clone(v api.Value) api.Value {
	v.Names = slices.Clone(v.Names)
	v.Items = slices.Clone(v.Items)
	for i := range v.Items {
		v.Items[i] = Clone(v.Items[i])
	}
	return v
}

// Equal tells whether two values are alike in all fields; nil and empty lists are.
func Equal(a, b api.Value) bool {
	return a.Kind == b.Kind && a.Bool == b.Bool && a.Int == b.Int && a.Text == b.Text && a.Uid == b.Uid &&
		slices.Equal(a.Names, b.Names) && slices.EqualFunc(a.Items, b.Items, Equal)
}
