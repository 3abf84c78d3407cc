package eval

import (
	"math/big"
	"slices"

	"chamberlain/api"
	"chamberlain/entity"
	"chamberlain/some"
	"chamberlain/value"
)

// world is a request and entities (as entity.Canon tells them), of which the oracle tells.
type world struct {
	q api.Request
	l []api.Entity
}

// kids reckons a Kid, when it is asked for; an error is a panic.
type kids func(int) api.Value

// row is what the document says of an Op: how many Kids it has, and what it comes to.
type row struct {
	kids int
	told func(w world, e api.Expr, kid kids) api.Value
}

const several = -1 // any number of Kids

// theRows are those of the document's table.
func theRows() map[int]row {
	return map[int]row{
		api.Lit:  {0, func(_ world, e api.Expr, _ kids) api.Value { return canon(e.V) }},
		api.Var:  {0, func(w world, e api.Expr, _ kids) api.Value { return w.variable(e.Name) }},
		api.Slot: {0, func(world, api.Expr, kids) api.Value { panic(api.ErrSlot) }},
		api.And: {2, func(_ world, _ api.Expr, kid kids) api.Value {
			if !must(kid(0), api.Bool).Bool {
				return some.Truth(false)
			}
			return must(kid(1), api.Bool)
		}},
		api.Or: {2, func(_ world, _ api.Expr, kid kids) api.Value {
			if must(kid(0), api.Bool).Bool {
				return some.Truth(true)
			}
			return must(kid(1), api.Bool)
		}},
		api.Not: {1, func(_ world, _ api.Expr, kid kids) api.Value { return some.Truth(!must(kid(0), api.Bool).Bool) }},
		api.If: {3, func(_ world, _ api.Expr, kid kids) api.Value {
			if must(kid(0), api.Bool).Bool {
				return kid(1)
			}
			return kid(2)
		}},
		api.Eq:     {2, func(_ world, _ api.Expr, kid kids) api.Value { return some.Truth(some.Equal(kid(0), kid(1))) }},
		api.Less:   {2, func(_ world, _ api.Expr, kid kids) api.Value { return some.Truth(compared(kid(0), kid(1)) < 0) }},
		api.LessEq: {2, func(_ world, _ api.Expr, kid kids) api.Value { return some.Truth(compared(kid(0), kid(1)) <= 0) }},
		api.Add:    {2, func(_ world, _ api.Expr, kid kids) api.Value { return reckonedBy((*big.Int).Add, kid(0), kid(1)) }},
		api.Sub:    {2, func(_ world, _ api.Expr, kid kids) api.Value { return reckonedBy((*big.Int).Sub, kid(0), kid(1)) }},
		api.Mul:    {2, func(_ world, _ api.Expr, kid kids) api.Value { return reckonedBy((*big.Int).Mul, kid(0), kid(1)) }},
		api.Neg:    {1, func(_ world, _ api.Expr, kid kids) api.Value { return reckonedBy((*big.Int).Sub, some.Num(0), kid(0)) }},
		api.In:     {2, func(w world, _ api.Expr, kid kids) api.Value { return some.Truth(w.in(kid(0), kid(1))) }},
		api.Is: {1, func(_ world, e api.Expr, kid kids) api.Value {
			return some.Truth(must(kid(0), api.Ref).Uid.Type == e.Name)
		}},
		api.Has: {1, func(w world, e api.Expr, kid kids) api.Value { return some.Truth(w.has(kid(0), e.Name)) }},
		api.Get: {1, func(w world, e api.Expr, kid kids) api.Value { return w.get(kid(0), e.Name) }},
		api.MakeSet: {several, func(_ world, e api.Expr, kid kids) api.Value {
			return canon(some.Set(every(e.Kids, kid)...))
		}},
		api.MakeRecord: {several, func(_ world, e api.Expr, kid kids) api.Value {
			return canon(api.Value{Kind: api.Record, Names: e.Names, Items: every(e.Kids, kid)})
		}},
		api.Contains: {2, func(_ world, _ api.Expr, kid kids) api.Value {
			a, b := kid(0), kid(1)
			return some.Truth(common(must(a, api.Set), some.Set(b)) == 1)
		}},
		api.ContainsAll: {2, func(_ world, _ api.Expr, kid kids) api.Value {
			a, b := kid(0), kid(1)
			return some.Truth(common(must(a, api.Set), must(b, api.Set)) == len(b.Items))
		}},
		api.ContainsAny: {2, func(_ world, _ api.Expr, kid kids) api.Value {
			a, b := kid(0), kid(1)
			return some.Truth(common(must(a, api.Set), must(b, api.Set)) > 0)
		}},
	}
}

// comesTo is what Eval answers, by the document's words: an oracle.
func (w world) comesTo(e api.Expr) (v api.Value, err api.Errno) {
	defer func() {
		switch told := recover().(type) {
		case nil:
		case api.Errno:
			v, err = api.Value{}, told
		default:
			panic(told)
		}
	}()
	if levels(e) > 50 {
		return api.Value{}, api.ErrDeep
	}
	return w.reckoned(e, theRows()), api.OK
}

func (w world) reckoned(e api.Expr, rows map[int]row) api.Value {
	r, is := rows[e.Op]
	if !is || r.kids != several && r.kids != len(e.Kids) || e.Op == api.MakeRecord && len(e.Names) != len(e.Kids) {
		panic(api.ErrArg)
	}
	return r.told(w, e, func(i int) api.Value { return w.reckoned(e.Kids[i], rows) })
}

// levels is how many levels an expression has, one below the other.
func levels(e api.Expr) int {
	count := 0
	for level := []api.Expr{e}; len(level) > 0; count++ {
		var next []api.Expr
		for _, x := range level {
			next = append(next, x.Kids...)
		}
		level = next
	}
	return count
}

// must is a value that must be of that Kind.
func must(v api.Value, kind int) api.Value {
	if v.Kind != kind {
		panic(api.ErrType)
	}
	return v
}

func canon(v api.Value) api.Value {
	c, e := value.Canon(v)
	if e != api.OK {
		panic(e)
	}
	return c
}

func every(l []api.Expr, kid kids) []api.Value {
	var all []api.Value
	for i := range l {
		all = append(all, kid(i))
	}
	return all
}

func compared(a, b api.Value) int {
	must(a, api.Int)
	must(b, api.Int)
	return big.NewInt(a.Int).Cmp(big.NewInt(b.Int))
}

func reckonedBy(op func(z, x, y *big.Int) *big.Int, a, b api.Value) api.Value {
	must(a, api.Int)
	must(b, api.Int)
	z := op(new(big.Int), big.NewInt(a.Int), big.NewInt(b.Int))
	if !z.IsInt64() {
		panic(api.ErrRange)
	}
	return some.Num(z.Int64())
}

// common is how many Items of one set another one has.
func common(a, b api.Value) int {
	count := 0
	for _, item := range b.Items {
		if slices.ContainsFunc(a.Items, func(other api.Value) bool { return some.Equal(item, other) }) {
			count++
		}
	}
	return count
}

func (w world) variable(name string) api.Value {
	for of, u := range map[string]api.Uid{"principal": w.q.Principal, "action": w.q.Action, "resource": w.q.Resource} {
		if of == name {
			return some.Ref(u.Type, u.Id)
		}
	}
	if name != "context" {
		panic(api.ErrArg)
	}
	return canon(w.q.Context)
}

// leads tells whether a name is another one, or a way leads from it to that.
func (w world) leads(from, to api.Uid) bool {
	reached := []api.Uid{from}
	for at := 0; at < len(reached); at++ {
		if reached[at] == to {
			return true
		}
		for _, e := range w.l {
			for _, parent := range e.Parents {
				if e.Uid == reached[at] && !slices.Contains(reached, parent) {
					reached = append(reached, parent)
				}
			}
		}
	}
	return false
}

func (w world) in(a, b api.Value) bool {
	must(a, api.Ref)
	if b.Kind == api.Ref {
		return w.leads(a.Uid, b.Uid)
	}
	found := false
	for _, item := range must(b, api.Set).Items { // to the last one, for all must be Refs
		found = w.leads(a.Uid, must(item, api.Ref).Uid) || found
	}
	return found
}

// entity is the one of a name, and how many there are (none or one).
func (w world) entity(u api.Uid) (api.Entity, int) {
	for _, e := range w.l {
		if e.Uid == u {
			return e, 1
		}
	}
	return api.Entity{}, 0
}

func (w world) has(a api.Value, name string) bool {
	if a.Kind == api.Record {
		return slices.Contains(a.Names, name)
	}
	e, count := w.entity(must(a, api.Ref).Uid)
	return count > 0 && slices.Contains(e.Attrs.Names, name)
}

func (w world) get(a api.Value, name string) api.Value {
	record := a
	if a.Kind != api.Record {
		e, count := w.entity(must(a, api.Ref).Uid)
		if count == 0 {
			panic(api.ErrEntity)
		}
		record = e.Attrs
	}
	place := slices.Index(record.Names, name)
	if place < 0 {
		panic(api.ErrAttr)
	}
	return record.Items[place]
}

// takes is what Holds answers, by the document's words: an oracle.
func (w world) takes(c api.Scope, u api.Uid) (bool, api.Errno) {
	slots := map[int]api.Errno{api.Equal: api.ErrSlot, api.Within: api.ErrSlot, api.Both: api.ErrSlot}
	if c.Slot && slots[c.Kind] != api.OK {
		return false, slots[c.Kind]
	}
	within, typed := w.leads(u, c.Uid), u.Type == c.Type
	listed := slices.ContainsFunc(c.List, func(above api.Uid) bool { return w.leads(u, above) })
	equal := u.Type == c.Uid.Type && u.Id == c.Uid.Id
	answers := map[int]bool{api.Any: true, api.Equal: equal, api.Within: within, api.OfType: typed, api.Both: within && typed, api.OneOf: listed}
	answer, is := answers[c.Kind]
	if !is {
		return false, api.ErrArg
	}
	return answer, api.OK
}

// maker makes worlds and expressions by chance, the same each time.
type maker struct{ some.Source }

func pick[T any](m *maker, l ...T) T { return l[m.Below(len(l))] }

// attrName is the name under which records and entities have something of a Kind.
func attrName(kind int) string { return " bitrsm"[kind : kind+1] }

func (m *maker) uid() api.Uid {
	return pick(m, some.Uids("U/a U/b U/c G/a G/b Action/v X/a / U/")...)
}

// value is one of a Kind, nested up to so deep, its items and names in any order.
func (m *maker) value(kind, levels int) api.Value {
	switch kind {
	case api.Bool:
		return some.Truth(m.Below(2) == 0)
	case api.Int:
		return some.Num(pick[int64](m, 0, 1, 2, -1, 3, 1<<32, 1<<62, -1<<63, 1<<63-1))
	case api.Text:
		return some.Text(pick(m, "", "a", "b", "\xff"))
	case api.Ref:
		return api.Value{Kind: kind, Uid: m.uid()}
	case api.Set:
		set := some.Set()
		of := 1 + m.Below(6)
		for range m.Below(4) {
			if levels > 1 {
				set.Items = append(set.Items, m.value(of, levels-1))
			}
		}
		return set
	}
	return m.record(levels)
}

func (m *maker) record(levels int) api.Value {
	r := some.Record("")
	for kind := api.Record; kind >= api.Bool; kind-- {
		if levels > 1 && m.Below(4) > 0 {
			r.Names, r.Items = append(r.Names, attrName(kind)), append(r.Items, m.value(kind, levels-1))
		}
	}
	return r
}

// world has some entities, and asks of some of them.
func (m *maker) world() world {
	w := world{q: api.Request{Principal: m.uid(), Action: m.uid(), Resource: m.uid(), Context: m.record(4)}}
	for _, name := range some.Uids("G/b G/a U/c U/b U/a Action/v /") {
		e := api.Entity{Uid: name, Attrs: m.record(3)}
		for _, other := range w.l {
			if m.Below(4) == 0 {
				e.Parents = append(e.Parents, other.Uid)
			}
		}
		if m.Below(6) > 0 {
			w.l = append(w.l, e)
		}
	}
	l, e := entity.Canon(w.l)
	if e != api.OK {
		panic("no entities")
	}
	w.l = l
	return w
}

// expr is an expression of up to so many levels that most often comes to a value of that Kind.
func (m *maker) expr(kind, levels int) api.Expr {
	if m.Below(40) == 0 {
		kind = 1 + m.Below(6)
	}
	if levels <= 1 {
		return m.leaf(kind)
	}
	less := func(kind int) api.Expr { return m.expr(kind, levels-1-m.Below(2)) }
	switch m.Below(8) {
	case 0:
		return m.leaf(kind)
	case 1:
		return some.Op(api.If, less(api.Bool), less(kind), less(kind))
	case 2:
		return some.Named(api.Get, attrName(kind), less(pick(m, api.Record, api.Record, api.Ref)))
	}
	switch kind {
	case api.Bool:
		return m.truth(less)
	case api.Int:
		return m.number(less)
	case api.Set, api.Record:
		return m.made(kind, less)
	}
	return m.leaf(kind)
}

func (m *maker) leaf(kind int) api.Expr {
	if m.Below(100) == 0 {
		return some.Named(api.Slot, "principal")
	}
	if kind == api.Ref && m.Below(2) == 0 {
		return some.Named(api.Var, pick(m, "principal", "action", "resource"))
	}
	if kind == api.Record && m.Below(2) == 0 {
		return some.Named(api.Var, "context")
	}
	return some.Lit(m.value(kind, 3))
}

func (m *maker) truth(less func(int) api.Expr) api.Expr {
	kind := 1 + m.Below(6)
	return pick(m,
		func() api.Expr { return some.Op(api.And, less(api.Bool), less(api.Bool)) },
		func() api.Expr { return some.Op(api.Or, less(api.Bool), less(api.Bool)) },
		func() api.Expr { return some.Op(api.Not, less(api.Bool)) },
		func() api.Expr { return some.Op(api.Eq, less(kind), less(kind)) },
		func() api.Expr { return some.Op(pick(m, api.Less, api.LessEq), less(api.Int), less(api.Int)) },
		func() api.Expr { return some.Op(api.In, less(api.Ref), less(api.Ref)) },
		func() api.Expr {
			return some.Op(api.In, less(api.Ref), some.Op(api.MakeSet, less(api.Ref), less(api.Ref)))
		},
		func() api.Expr { return some.Named(api.Is, pick(m, "U", "G", "", "a"), less(api.Ref)) },
		func() api.Expr {
			return some.Named(api.Has, attrName(kind), less(pick(m, api.Ref, api.Record)))
		},
		func() api.Expr { return some.Op(api.Contains, less(api.Set), less(kind)) },
		func() api.Expr {
			return some.Op(pick(m, api.ContainsAll, api.ContainsAny), less(api.Set), less(api.Set))
		},
	)()
}

func (m *maker) number(less func(int) api.Expr) api.Expr {
	if m.Below(4) == 0 {
		return some.Op(api.Neg, less(api.Int))
	}
	return some.Op(pick(m, api.Add, api.Sub, api.Mul), less(api.Int), less(api.Int))
}

// made is a set or a record that is made.
func (m *maker) made(kind int, less func(int) api.Expr) api.Expr {
	e := api.Expr{Op: api.MakeSet}
	of := 1 + m.Below(6)
	for range m.Below(4) {
		if kind == api.Record {
			e.Op, of = api.MakeRecord, of%6+1
			e.Names = append(e.Names, attrName(of))
		}
		e.Kids = append(e.Kids, less(of))
	}
	return e
}

// spoilt is the expression with something at one place that is seldom such as may be.
func (m *maker) spoilt(e api.Expr) api.Expr {
	c := some.CloneExpr(e)
	at := &c
	for len(at.Kids) > 0 && m.Below(4) > 0 {
		at = &at.Kids[m.Below(len(at.Kids))]
	}
	switch m.Below(7) {
	case 0:
		at.Op = m.Below(27) - 1
	case 1:
		at.Name = pick(m, "", "b", "i", "U", "principal", "action", "context", "nobody")
	case 2:
		at.V = pick(m, api.Value{}, some.Tower(51, some.Num(1)), some.Record("a a", some.Num(1), some.Num(2)), some.Record("a"), some.Set(some.Num(2), some.Num(1)))
	case 3:
		at.Kids = append(at.Kids, some.Lit(some.Num(1)))
	case 4:
		at.Kids = at.Kids[:max(len(at.Kids)-1, 0)]
	case 5:
		at.Names = append(at.Names, "b")
	default:
		at.Names = at.Names[:max(len(at.Names)-1, 0)]
	}
	return c
}
