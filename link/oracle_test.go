package link

import (
	"maps"
	"slices"
	"strconv"
	"strings"

	"chamberlain/api"
	"chamberlain/some"
)

// spots are a policy laid out flat: what stands at each place that has a number, a truth or a text, by the way to it; and how long each list is.
type spots map[string]string

func (s spots) text(at, text string)     { s[at] = strconv.Quote(text) }
func (s spots) number(at string, n int)  { s[at] = strconv.Itoa(n) }
func (s spots) truth(at string, is bool) { s[at] = strconv.FormatBool(is) }

func (s spots) uid(at string, u api.Uid) {
	s.text(at+"Type", u.Type)
	s.text(at+"Id", u.Id)
}

// row lays out a list, by what lays out each of its items.
func row[T any](s spots, at string, l []T, lay func(at string, item T)) {
	s.number(at+"len", len(l))
	for i, item := range l {
		lay(at+strconv.Itoa(i)+"/", item)
	}
}

func (s spots) value(at string, v api.Value) {
	s.number(at+"Kind", v.Kind)
	s.truth(at+"Bool", v.Bool)
	s.text(at+"Int", strconv.FormatInt(v.Int, 10))
	s.text(at+"Text", v.Text)
	s.uid(at+"Uid/", v.Uid)
	row(s, at+"Items/", v.Items, s.value)
	row(s, at+"Names/", v.Names, s.text)
}

func (s spots) expr(at string, e api.Expr) {
	s.number(at+"Op", e.Op)
	s.value(at+"V/", e.V)
	s.text(at+"Name", e.Name)
	row(s, at+"Kids/", e.Kids, s.expr)
	row(s, at+"Names/", e.Names, s.text)
}

func (s spots) scope(at string, c api.Scope) {
	s.number(at+"Kind", c.Kind)
	s.text(at+"Type", c.Type)
	s.uid(at+"Uid/", c.Uid)
	s.truth(at+"Slot", c.Slot)
	row(s, at+"List/", c.List, s.uid)
}

// laidOut is a policy's spots.
func laidOut(p api.Policy) spots {
	s := spots{}
	s.text("Id", p.Id)
	s.truth("Permit", p.Permit)
	s.scope("Principal/", p.Principal)
	s.scope("Action/", p.Action)
	s.scope("Resource/", p.Resource)
	row(s, "Conds/", p.Conds, func(at string, c api.Cond) {
		s.truth(at+"When", c.When)
		s.expr(at+"E/", c.E)
	})
	return s
}

// put has a name in the place of a slot: of a scope, and of all expressions that are that slot.
func (s spots) put(scope, slot string, u api.Uid) {
	s.truth(scope+"Slot", false)
	s.uid(scope+"Uid/", u)
	for _, at := range slices.Sorted(maps.Keys(s)) {
		way, isOp := strings.CutSuffix(at, "/Op")
		if isOp && s[at] == "3" && s[way+"/Name"] == strconv.Quote(slot) {
			maps.DeleteFunc(s, func(below, _ string) bool { return strings.HasPrefix(below, way+"/") })
			s.expr(way+"/", api.Expr{Op: 1, V: api.Value{Kind: 4, Uid: u}})
		}
	}
}

// told is what Link tells by the chapter's words: the answer's spots.
func told(t api.Policy, id string, principal, resource []api.Uid) (spots, api.Errno) {
	s := laidOut(t)
	asked := []string{s["Principal/Slot"], strconv.Itoa(len(principal)), s["Resource/Slot"], strconv.Itoa(len(resource))}
	s.text("Id", id)
	switch strings.Join(asked, " ") {
	case "true 1 false 0":
		s.put("Principal/", "principal", principal[0])
	case "false 0 true 1":
		s.put("Resource/", "resource", resource[0])
	case "true 1 true 1":
		s.put("Principal/", "principal", principal[0])
		s.put("Resource/", "resource", resource[0])
	default:
		return laidOut(api.Policy{}), api.ErrSlot
	}
	return s, api.OK
}

// maker makes policies by chance, of which nothing needs to be as it may be.
type maker struct{ some.Source }

func pick[T any](m *maker, l ...T) T { return l[m.Below(len(l))] }

func (m *maker) coin() bool { return m.Below(2) == 0 }

// name is often that of a slot.
func (m *maker) name() string {
	return pick(m, "principal", "principal", "resource", "resource", "action", "context", "", "a", "?principal", "Principal", "principal ", "\xff")
}

func (m *maker) uid() api.Uid { return api.Uid{Type: m.name(), Id: m.name()} }

// three are up to three things.
func three[T any](m *maker, one func() T) []T {
	var l []T
	for range m.Below(4) {
		l = append(l, one())
	}
	return l
}

func (m *maker) value(levels int) api.Value {
	v := api.Value{Kind: m.Below(9) - 1, Bool: m.coin(), Int: int64(m.Below(9) - 4), Text: m.name(), Uid: m.uid()}
	if levels > 1 {
		v.Items = three(m, func() api.Value { return m.value(levels - 1) })
		v.Names = three(m, m.name)
	}
	return v
}

func (m *maker) expr(levels int) api.Expr {
	e := api.Expr{Op: pick(m, m.Below(26)-1, api.Slot), V: m.value(m.Below(3)), Name: m.name(), Names: three(m, m.name)}
	if levels > 1 {
		e.Kids = three(m, func() api.Expr { return m.expr(levels - 1) })
	}
	return e
}

func (m *maker) scope() api.Scope {
	return api.Scope{Kind: m.Below(8) - 1, Type: m.name(), Uid: m.uid(), Slot: m.Below(3) > 0, List: three(m, m.uid)}
}

func (m *maker) policy() api.Policy {
	return api.Policy{
		Id: m.name(), Permit: m.coin(), Principal: m.scope(), Action: m.scope(), Resource: m.scope(),
		Conds: three(m, func() api.Cond { return api.Cond{When: m.coin(), E: m.expr(1 + m.Below(4))} }),
	}
}

// names are as many as a scope has slots, now and then another number of them.
func (m *maker) names(c api.Scope) []api.Uid {
	if m.Below(8) == 0 {
		return three(m, m.uid)
	}
	if c.Slot {
		return []api.Uid{m.uid()}
	}
	return nil
}
