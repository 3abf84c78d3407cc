// Package some makes values, entities, expressions, policies, types, schemas and requests, holds them against each other, and spoils them, for the tests of all layers. No layer calls it.
package some

import (
	"slices"
	"strconv"
	"strings"

	"chamberlain/api"
)

// Truth is one of kind Bool.
func Truth(b bool) api.Value { return api.Value{Kind: api.Bool, Bool: b} }

// Num is one of kind Int.
func Num(n int64) api.Value { return api.Value{Kind: api.Int, Int: n} }

// Text is one of kind Text.
func Text(s string) api.Value { return api.Value{Kind: api.Text, Text: s} }

// Ref is one of kind Ref.
func Ref(typ, id string) api.Value {
	return api.Value{Kind: api.Ref, Uid: api.Uid{Type: typ, Id: id}}
}

// Set has the items in the order in which they are told.
func Set(items ...api.Value) api.Value { return api.Value{Kind: api.Set, Items: items} }

// Record has the names that are told with blanks between them.
func Record(names string, items ...api.Value) api.Value {
	return api.Value{Kind: api.Record, Names: strings.Fields(names), Items: items}
}

// Tower is a value of that Depth: sets and records by turns, around the innermost one.
func Tower(depth int, innermost api.Value) api.Value {
	v := innermost
	for i := range depth - 1 {
		if i%2 == 0 {
			v = Set(v)
		} else {
			v = Record("a", v)
		}
	}
	return v
}

// Uid is a name told by its Type, a slash and its Id.
func Uid(name string) api.Uid {
	typ, id, _ := strings.Cut(name, "/")
	return api.Uid{Type: typ, Id: id}
}

// Uids are names told with blanks between them.
func Uids(names string) []api.Uid {
	var l []api.Uid
	for _, name := range strings.Fields(names) {
		l = append(l, Uid(name))
	}
	return l
}

// Entity is one without attributes, its parents told as by Uids.
func Entity(name, parents string) api.Entity {
	return api.Entity{Uid: Uid(name), Parents: Uids(parents), Attrs: Record("")}
}

// With is an entity with attributes.
func With(name, parents string, attrs api.Value) api.Entity {
	e := Entity(name, parents)
	e.Attrs = attrs
	return e
}

// Entities are some without attributes, each one told as "name parent parent ..".
func Entities(told ...string) []api.Entity {
	var l []api.Entity
	for _, one := range told {
		name, parents, _ := strings.Cut(one, " ")
		l = append(l, Entity(name, parents))
	}
	return l
}

// Line are n entities, each one below the next, and the last one below those that are told.
func Line(n int, last string) []api.Entity {
	var l []api.Entity
	for i := range n {
		parents := "U/" + strconv.Itoa(i+1)
		if i == n-1 {
			parents = last
		}
		l = append(l, Entity("U/"+strconv.Itoa(i), parents))
	}
	return l
}

// Ladder are two entities on each of n levels, each one below both of the next level: 2^n ways lead up.
func Ladder(n int) []api.Entity {
	var l []api.Entity
	for i := range n {
		next := strconv.Itoa(i + 1)
		parents := "U/" + next + " V/" + next
		if i == n-1 {
			parents = ""
		}
		l = append(l, Entity("U/"+strconv.Itoa(i), parents), Entity("V/"+strconv.Itoa(i), parents))
	}
	return l
}

// Lit is what a value is by itself.
func Lit(v api.Value) api.Expr { return api.Expr{Op: api.Lit, V: v} }

// Op is an expression of others.
func Op(op int, kids ...api.Expr) api.Expr { return api.Expr{Op: op, Kids: kids} }

// Named is an expression with a name, of others.
func Named(op int, name string, kids ...api.Expr) api.Expr {
	return api.Expr{Op: op, Name: name, Kids: kids}
}

// Lists are all lists of up to n of the pieces.
func Lists[T any](n int, pieces []T) [][]T {
	all := [][]T{nil}
	for at := 0; at < len(all); at++ {
		for _, piece := range pieces {
			if l := all[at]; len(l) < n {
				all = append(all, append(slices.Clone(l), piece))
			}
		}
	}
	return all
}

// Clone is the same value in other memory, to the last field.
func Clone(v api.Value) api.Value {
	v.Names = slices.Clone(v.Names)
	v.Items = slices.Clone(v.Items)
	for i := range v.Items {
		v.Items[i] = Clone(v.Items[i])
	}
	return v
}

// Equal tells whether two values are alike in all fields; nil and empty lists are.
func Equal(a, b api.Value) bool {
	return a.Kind == b.Kind && a.Bool == b.Bool && a.Int == b.Int && a.Text == b.Text && a.Uid == b.Uid &&
		slices.Equal(a.Names, b.Names) && slices.EqualFunc(a.Items, b.Items, Equal)
}

// CloneAll are the same entities in other memory, to the last field.
func CloneAll(l []api.Entity) []api.Entity {
	c := slices.Clone(l)
	for i := range c {
		c[i].Parents = slices.Clone(c[i].Parents)
		c[i].Attrs = Clone(c[i].Attrs)
	}
	return c
}

// EqualAll tells whether two lists of entities are alike, one by one, in all fields; nil and empty lists are.
func EqualAll(a, b []api.Entity) bool {
	return slices.EqualFunc(a, b, func(x, y api.Entity) bool {
		return x.Uid == y.Uid && slices.Equal(x.Parents, y.Parents) && Equal(x.Attrs, y.Attrs)
	})
}

// EqualExpr tells whether two expressions are alike in all fields; nil and empty lists are.
func EqualExpr(a, b api.Expr) bool {
	return a.Op == b.Op && Equal(a.V, b.V) && a.Name == b.Name && slices.Equal(a.Names, b.Names) && slices.EqualFunc(a.Kids, b.Kids, EqualExpr)
}

// CloneExpr is the same expression in other memory, to the last field.
func CloneExpr(e api.Expr) api.Expr {
	e.V = Clone(e.V)
	e.Names = slices.Clone(e.Names)
	e.Kids = slices.Clone(e.Kids)
	for i := range e.Kids {
		e.Kids[i] = CloneExpr(e.Kids[i])
	}
	return e
}

// Spoil overwrites all that a value's lists hold, and what there is room for behind them.
func Spoil(v api.Value) {
	for _, item := range v.Items {
		Spoil(item)
	}
	items, names := v.Items[:cap(v.Items)], v.Names[:cap(v.Names)]
	for i := range items {
		items[i] = Text("spoilt")
	}
	for i := range names {
		names[i] = "spoilt"
	}
}

// SpoilAll overwrites all that entities' lists hold, and what there is room for behind them.
func SpoilAll(l []api.Entity) {
	for _, e := range l {
		SpoilUids(e.Parents)
		Spoil(e.Attrs)
	}
	for i := range l[:cap(l)] {
		l[:cap(l)][i] = api.Entity{}
	}
}

// SpoilUids overwrites all that a list of names holds, and what there is room for behind it.
func SpoilUids(l []api.Uid) {
	for i := range l[:cap(l)] {
		l[:cap(l)][i] = api.Uid{Type: "spoilt", Id: "spoilt"}
	}
}

// SpoilExpr overwrites all that an expression's lists hold, and what there is room for behind them.
func SpoilExpr(e api.Expr) {
	for _, kid := range e.Kids {
		SpoilExpr(kid)
	}
	Spoil(e.V)
	kids, names := e.Kids[:cap(e.Kids)], e.Names[:cap(e.Names)]
	for i := range kids {
		kids[i] = Lit(Text("spoilt"))
	}
	for i := range names {
		names[i] = "spoilt"
	}
}

// EqualPolicies tells whether two lists of policies are alike, one by one, in all fields; nil and empty lists are.
func EqualPolicies(a, b []api.Policy) bool { return slices.EqualFunc(a, b, equalPolicy) }

func equalPolicy(a, b api.Policy) bool {
	return a.Id == b.Id && a.Permit == b.Permit &&
		equalScope(a.Principal, b.Principal) && equalScope(a.Action, b.Action) && equalScope(a.Resource, b.Resource) &&
		slices.EqualFunc(a.Conds, b.Conds, func(x, y api.Cond) bool { return x.When == y.When && EqualExpr(x.E, y.E) })
}

func equalScope(a, b api.Scope) bool {
	return a.Kind == b.Kind && a.Type == b.Type && a.Uid == b.Uid && a.Slot == b.Slot && slices.Equal(a.List, b.List)
}

// ClonePolicies are the same policies in other memory, to the last field.
func ClonePolicies(l []api.Policy) []api.Policy {
	c := slices.Clone(l)
	for i, p := range c {
		c[i].Principal.List, c[i].Action.List, c[i].Resource.List = slices.Clone(p.Principal.List), slices.Clone(p.Action.List), slices.Clone(p.Resource.List)
		c[i].Conds = slices.Clone(p.Conds)
		for at, cond := range p.Conds {
			c[i].Conds[at].E = CloneExpr(cond.E)
		}
	}
	return c
}

// SpoilPolicies overwrites all that policies' lists hold, and what there is room for behind them.
func SpoilPolicies(l []api.Policy) {
	for _, p := range l {
		SpoilUids(p.Principal.List)
		SpoilUids(p.Action.List)
		SpoilUids(p.Resource.List)
		for _, c := range p.Conds {
			SpoilExpr(c.E)
		}
		for i := range p.Conds[:cap(p.Conds)] {
			p.Conds[:cap(p.Conds)][i] = api.Cond{E: Lit(Text("spoilt"))}
		}
	}
	for i := range l[:cap(l)] {
		l[:cap(l)][i] = api.Policy{Id: "spoilt"}
	}
}
