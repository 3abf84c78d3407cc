package eval

import (
	"fmt"
	"math"
	"slices"
	"strconv"
	"strings"
	"testing"

	"chamberlain/api"
	"chamberlain/entity"
	"chamberlain/expr"
	"chamberlain/family"
	"chamberlain/some"
	"chamberlain/value"
)

var (
	one  = some.Num(1)
	yes  = some.Lit(some.Truth(true))
	no   = some.Lit(some.Truth(false))
	slot = some.Named(api.Slot, "principal")
)

// plain is a world with something of all that there may be.
func plain() world {
	l := []api.Entity{
		some.With("U/a", "U/b G/a", some.Record("age boss tags deep", some.Num(7), some.Ref("U", "b"), some.Set(some.Text("x"), some.Text("y")), some.Record("in", one))),
		some.With("U/b", "G/b", some.Record("age", some.Text("old"))),
		some.Entity("U/c", ""),
		some.Entity("G/a", "G/top"),
		some.Entity("G/b", "G/top"),
		some.With("G/top", "", api.Value{Kind: api.Record, Names: []string{""}, Items: []api.Value{one}}),
		some.Entity("Action/view", "Action/all"),
		some.Entity("Action/all", ""),
	}
	l, e := entity.Canon(l)
	if e != api.OK {
		panic("no entities")
	}
	context := some.Record("n ok s who r", one, some.Truth(true), some.Set(some.Num(2), one, one), some.Ref("U", "b"), some.Record("b a", one, some.Set()))
	return world{api.Request{Principal: some.Uid("U/a"), Action: some.Uid("Action/view"), Resource: some.Uid("D/none"), Context: context}, l}
}

// store is the store of a world's entities.
func (w world) store() *family.Store {
	s, e := family.Load(w.l)
	if e != api.OK {
		panic("no store")
	}
	return s
}

// wantEval holds an answer: the value in all fields, and none beside an error.
func wantEval(t *testing.T, e api.Expr, q api.Request, s *family.Store, want api.Value, wantErr api.Errno) {
	t.Helper()
	v, err := Eval(e, q, s)
	if err != wantErr || !some.Equal(v, want) {
		t.Fatalf("Eval(%.500s, %.300s): %.300s, %d; not %.300s, %d", fmt.Sprint(e), fmt.Sprint(q), fmt.Sprint(v), err, fmt.Sprint(want), wantErr)
	}
}

// wantValue asks for a value in the plain world, and of the oracle.
func wantValue(t *testing.T, e api.Expr, want api.Value) {
	t.Helper()
	w := plain()
	wantEval(t, e, w.q, w.store(), want, api.OK)
	if v, err := w.comesTo(e); err != api.OK || !some.Equal(v, want) {
		t.Fatal("the oracle", e, v, err)
	}
}

// wantError asks for an error in the plain world, and of the oracle.
func wantError(t *testing.T, e api.Expr, want api.Errno) {
	t.Helper()
	w := plain()
	wantEval(t, e, w.q, w.store(), api.Value{}, want)
	if _, err := w.comesTo(e); err != want {
		t.Fatal("the oracle", e, err)
	}
}

// wantOracle asks for what the oracle tells, and tells which error that is.
func wantOracle(t *testing.T, e api.Expr, w world, s *family.Store) api.Errno {
	t.Helper()
	v, err := w.comesTo(e)
	wantEval(t, e, w.q, s, v, err)
	return err
}

// parsed is the expression of a text.
func parsed(t *testing.T, text string) api.Expr {
	t.Helper()
	e, err, at := expr.Parse(text)
	if err != api.OK {
		t.Fatal(text, err, at)
	}
	return e
}

// TestP14_1Examples are the chapter's, and those of the whole that are expressions.
func TestP14_1Examples(t *testing.T) {
	wantValue(t, parsed(t, "false && 1"), some.Truth(false))
	wantError(t, parsed(t, "true && 1"), api.ErrType)
	wantValue(t, parsed(t, "1 + 2 * 3 == 7"), some.Truth(true))
	wantError(t, parsed(t, "9223372036854775807 + 1"), api.ErrRange)
}

// TestP14_1Truths has expressions that come to a truth; with an exclamation mark ahead of them they come to the other one.
func TestP14_1Truths(t *testing.T) {
	for _, text := range []string{
		`true`, `!false`, `true && true`, `!(true && false)`, `!(false && true)`, `!(false && false)`, `true || false`, `false || true`, `true || true`, `!(false || false)`,
		`!(false && 1)`, `!(false && ?principal)`, `true || 1`, `true || principal.none`, `if true then true else 1 + true`, `if false then 1 + true else true`,
		`(if true then 1 else 2) == 1`, `(if false then 1 else 2) == 2`, `(if 1 < 2 then "a" else ?resource) == "a"`,
		`1 == 1`, `1 != 2`, `"1" != 1`, `!(1 == true)`, `[1, 2] == [2, 1, 2]`, `{a: 1, b: 2} == {b: 2, a: 1}`, `{a: 1} != {a: 2}`, `[] != {}`, `U::"a" == principal`, `U::"a" != G::"a"`, `U::"a" != "a"`, `D::"none" == resource`,
		`1 < 2`, `!(1 < 1)`, `!(2 < 1)`, `1 <= 1`, `1 <= 2`, `!(2 <= 1)`, `2 > 1`, `2 >= 2`, `-1 < 0`, `-(0 - 5) == 5`, `2 + 3 == 5`, `2 - 3 == -1`, `-2 * 3 == 0 - 6`, `7 - 2 - 1 == 4`,
		`principal in principal`, `principal in U::"b"`, `principal in G::"top"`, `!(U::"b" in principal)`, `resource in resource`, `!(resource in principal)`, `!(principal in resource)`, `action in Action::"all"`, `!(Action::"all" in action)`, `X::"x" in X::"x"`,
		`principal in [G::"top", X::"x"]`, `principal in [X::"x", principal]`, `!(principal in [X::"x", U::"c"])`, `!(principal in [])`, `U::"c" in [U::"c"]`,
		`principal is U`, `!(principal is G)`, `action is Action`, `resource is D`, `X::"x" is X`, `A::B::"x" is A::B`, `!(A::B::"x" is A)`,
		`principal has age`, `!(principal has none)`, `!(resource has age)`, `!(U::"c" has age)`, `context has n`, `!(context has m)`, `{a: 1} has a`, `!({a: 1} has b)`, `!({} has a)`, `!(X::"x" has a)`, `principal.boss has age`,
		`principal.age == 7`, `principal.boss == U::"b"`, `principal.boss.age == "old"`, `principal.deep.in == 1`, `G::"top"[""] == 1`, `context.n == 1`, `context.who.age == "old"`, `context.r.b == 1`, `{a: 1, b: 2}.b == 2`, `{"a b": 1}["a b"] == 1`, `context.ok`,
		`context == {n: 1, ok: true, s: [1, 2], who: U::"b", r: {a: [], b: 1}}`, `context.s == [2, 1]`,
		`[1, 2].contains(2)`, `![1, 2].contains(3)`, `![].contains([])`, `[[]].contains([])`, `[[1, 2]].contains([2, 1])`, `!["1"].contains(1)`, `principal.tags.contains("x")`, `[true, false].contains(1 == 2)`, `[{a: 1}].contains({a: 1})`,
		`[1, 2].containsAll([2])`, `[1, 2].containsAll([2, 1])`, `![1, 2].containsAll([2, 3])`, `[1].containsAll([])`, `[].containsAll([])`, `![].containsAll([1])`, `![1].containsAll([[1]])`,
		`[1, 2].containsAny([3, 2])`, `![1, 2].containsAny([3, 4])`, `![1].containsAny([])`, `![].containsAny([])`, `![].containsAny([1])`, `[[1]].containsAny([[1], 2])`,
	} {
		wantValue(t, parsed(t, text), some.Truth(true))
		wantValue(t, some.Op(api.Not, parsed(t, text)), some.Truth(false))
	}
}

// TestP14_1Errors has expressions that come to an error.
func TestP14_1Errors(t *testing.T) {
	for want, texts := range map[api.Errno][]string{
		api.ErrType: {
			`true && 1`, `1 && true`, `1 && false`, `false || 1`, `1 || true`, `"" || ?principal`, `true && principal`, `!1`, `!""`, `![]`, `!principal`, `if 1 then ?principal else ?principal`, `if principal then 1 else 2`,
			`1 < true`, `true < 1`, `"a" < "b"`, `"a" <= "b"`, `1 + "a"`, `"a" + "b"`, `true * 1`, `1 - []`, `-true`, `-"1"`, `-[1]`,
			`principal in 1`, `1 in principal`, `principal in {}`, `context in principal`, `"a" in []`, `[] in []`, `[principal] in [principal]`, `principal in [1]`, `principal in [principal, 1]`, `principal in [principal, [principal]]`, `principal in ["x"]`,
			`1 is U`, `"U" is U`, `[principal] is U`, `context is U`, `1 has a`, `"a" has a`, `[] has a`, `[context] has n`, `true has a`, `1.a`, `"a".a`, `[{a: 1}].a`, `true.a`,
			`1.contains(1)`, `"abc".contains("a")`, `{a: 1}.contains(1)`, `principal.contains(principal)`, `1.containsAll([1])`, `[1].containsAll(1)`, `[1].containsAny(1)`, `1.containsAny([])`, `{}.containsAll({})`, `[].containsAny(context)`,
		},
		api.ErrSlot: {
			`?principal`, `?resource`, `true && ?principal`, `?principal && 1`, `false || ?resource`, `!?principal`, `if ?principal then 1 else 2`, `if true then ?principal else 1`, `if false then 1 else ?principal`, `?principal == ?principal`, `1 == ?principal`,
			`true < ?principal`, `1 in ?principal`, `"a" + ?principal`, `1.contains(?principal)`, `1.containsAll(?principal)`, `true.containsAny(?principal)`, `-?principal`, `?principal is U`, `?principal has a`, `?principal.a`, `[1, ?principal]`, `{a: 1, b: ?principal}`,
		},
		api.ErrRange:  {`9223372036854775807 + 1`, `-9223372036854775807 - 2`, `9223372036854775807 * 2`, `-(-9223372036854775807 - 1)`, `[9223372036854775807 + 1]`, `(9223372036854775807 + 1) == ?principal`, `9223372036854775807 + 1 + true`},
		api.ErrEntity: {`resource.age`, `X::"x".a`, `X::"x".a.b`, `principal.age + X::"x".a`, `U::"A".age`, `G::"c"[""]`},
		api.ErrAttr:   {`principal.none`, `U::"c".age`, `context.m`, `{a: 1}.b`, `{}.a`, `context.r.c`, `principal.deep.out`, `context["n "]`, `{a: 1}[""]`, `G::"a"[""]`},
		api.ErrTwice:  {`{a: 1, a: 2}`, `{a: 1, b: 2, a: 1}`, `[{a: 1, a: 1}]`, `{a: 1, a: 1}.a`, `{a: 1, a: 1} has b`},
	} {
		for _, text := range texts {
			wantError(t, parsed(t, text), want)
		}
	}
}

// TestP14_1FirstError has each error ahead of each other one, and of one of the Op itself: the first Kid's is told.
func TestP14_1FirstError(t *testing.T) {
	l := faults()
	for _, op := range []int{api.And, api.Or, api.Eq, api.Less, api.LessEq, api.Add, api.Sub, api.Mul, api.In, api.MakeSet, api.MakeRecord, api.Contains, api.ContainsAll, api.ContainsAny} {
		for want, a := range l {
			for _, b := range l {
				e := some.Op(op, a, b)
				if op == api.MakeRecord {
					e.Names = []string{"a", "a"}
				}
				wantError(t, e, want)
			}
		}
	}
	for want, a := range l {
		wantError(t, some.Op(api.If, a, slot, slot), want)
		wantError(t, some.Op(api.If, yes, a, slot), want)
		wantError(t, some.Op(api.If, no, slot, a), want)
	}
}

// faults are expressions that come to an error each.
func faults() map[api.Errno]api.Expr {
	return map[api.Errno]api.Expr{
		api.ErrArg:    some.Named(api.Var, "nobody"),
		api.ErrDeep:   some.Lit(some.Tower(51, one)),
		api.ErrLong:   some.Lit(many(api.MaxItems + 1)),
		api.ErrTwice:  some.Lit(some.Record("a a", one, one)),
		api.ErrRange:  some.Op(api.Neg, some.Lit(some.Num(math.MinInt64))),
		api.ErrEntity: some.Named(api.Get, "a", some.Lit(some.Ref("X", "x"))),
		api.ErrType:   some.Op(api.Not, some.Lit(one)),
		api.ErrAttr:   some.Named(api.Get, "none", some.Named(api.Var, "principal")),
		api.ErrSlot:   slot,
	}
}

// many is a set of the numbers from 0 on.
func many(n int) api.Value {
	set := some.Set()
	for i := range n {
		set.Items = append(set.Items, some.Num(int64(i)))
	}
	return set
}

// leaves are short expressions that come to values of each Kind, and to each error but ErrLong.
func leaves() []api.Expr {
	var l []api.Expr
	for _, v := range []api.Value{
		some.Truth(true), some.Truth(false), some.Num(0), one, some.Num(-2), some.Num(math.MaxInt64), some.Num(math.MinInt64), some.Text(""), some.Text("a"),
		some.Ref("U", "a"), some.Ref("U", "b"), some.Ref("U", "c"), some.Ref("G", "top"), some.Ref("X", "x"),
		some.Set(), some.Set(one), some.Set(one, some.Num(0), one), some.Set(some.Ref("G", "top")), some.Set(some.Ref("X", "x"), some.Ref("U", "b")), some.Set(some.Ref("U", "a"), one), some.Set(some.Set()), some.Set(some.Truth(true), some.Text("a")),
		some.Record(""), some.Record("age", one), some.Record("tags age", some.Set(), some.Ref("U", "a")),
	} {
		l = append(l, some.Lit(v))
	}
	for err, e := range faults() {
		if err != api.ErrLong {
			l = append(l, e)
		}
	}
	slices.SortFunc(l, func(a, b api.Expr) int { return strings.Compare(fmt.Sprint(a), fmt.Sprint(b)) })
	return append(l, some.Named(api.Var, "principal"), some.Named(api.Var, "context"))
}

// TestP14_1AllOps holds each Op of all leaves against the oracle.
func TestP14_1AllOps(t *testing.T) {
	w := plain()
	s, l := w.store(), leaves()
	count := map[api.Errno]int{}
	for op, r := range theRows() {
		for _, row := range some.Lists(2, l) {
			if r.kids == len(row) || r.kids == several {
				e := some.Op(op, row...)
				for _, name := range []string{"", "a", "age", "tags", "U", "G"} {
					e.Name = name
					if op == api.MakeRecord {
						e.Names = []string{"b", name}[:len(row)]
					}
					count[wantOracle(t, e, w, s)]++
				}
			}
		}
	}
	for _, a := range l {
		for _, b := range l {
			for _, c := range l {
				count[wantOracle(t, some.Op(api.If, a, b, c), w, s)]++
			}
		}
	}
	for err := range faults() {
		if count[err] < 500 && err != api.ErrLong {
			t.Error(err, count)
		}
	}
	if count[api.OK] < 10000 {
		t.Error(count)
	}
}

// kidsOf are as many Kids as an Op has (of any number three), and as many Names.
func kidsOf(op int, kid api.Expr) api.Expr {
	count := theRows()[op].kids
	if count == several {
		count = 3
	}
	return api.Expr{Op: op, Kids: slices.Repeat([]api.Expr{kid}, count), Names: []string{"a", "b", "c"}[:count]}
}

// TestP14_1Counts has any Op with any number of Kids and Names: what may not be is told ahead of the Kids' errors.
func TestP14_1Counts(t *testing.T) {
	w := plain()
	s := w.store()
	for _, op := range []int{math.MinInt, -1, 0, 1, 2, 3, 4, 5, 6, 7, 8, 9, 10, 11, 12, 13, 14, 15, 16, 17, 18, 19, 20, 21, 22, 23, 24, 25, 256 + 1, math.MaxInt} {
		for count := range 6 {
			for names := range 6 {
				for _, kid := range []api.Expr{slot, yes, some.Lit(one), {}} {
					e := api.Expr{Op: op, V: one, Name: "context", Kids: slices.Repeat([]api.Expr{kid}, count), Names: slices.Repeat([]string{"a"}, names)}
					r, is := theRows()[op]
					want := wantOracle(t, e, w, s)
					if !is || r.kids != several && r.kids != count || op == api.MakeRecord && names != count {
						if want != api.ErrArg {
							t.Fatal("the oracle", e, want)
						}
					}
				}
			}
		}
	}
	for op, r := range theRows() {
		good := kidsOf(op, slot)
		for i := range good.Kids { // what has no Op at one place, behind slots
			e := some.CloneExpr(good)
			e.Kids[i].Op = 24
			want := api.ErrSlot
			if i == 0 {
				want = api.ErrArg
			}
			wantError(t, e, want)
		}
		if r.kids != several && r.kids > 0 {
			wantError(t, good, api.ErrSlot)
			wantError(t, api.Expr{Op: op, Kids: good.Kids[1:]}, api.ErrArg)
			wantError(t, api.Expr{Op: op, Kids: append(good.Kids, slot)}, api.ErrArg)
		}
	}
	wantError(t, api.Expr{Op: api.MakeRecord, Names: []string{"a", "a"}, Kids: []api.Expr{slot}}, api.ErrArg)
	wantError(t, api.Expr{Op: api.MakeRecord, Kids: []api.Expr{slot}}, api.ErrArg)
	wantError(t, api.Expr{Op: api.MakeRecord, Names: []string{"a"}}, api.ErrArg)
}

// TestP14_1NotReckoned has all that may not be, and each error, where it isn't reckoned.
func TestP14_1NotReckoned(t *testing.T) {
	bad := []api.Expr{{}, {Op: 24}, {Op: -1}, some.Op(api.Not), some.Op(api.Slot, yes), {Op: api.MakeRecord, Names: []string{"a"}}, some.Op(api.And, slot, slot, slot)}
	for _, e := range faults() {
		bad = append(bad, e, some.Op(api.MakeSet, e))
	}
	for _, e := range bad {
		wantValue(t, some.Op(api.And, no, e), some.Truth(false))
		wantValue(t, some.Op(api.Or, yes, e), some.Truth(true))
		wantValue(t, some.Op(api.If, yes, some.Lit(one), e), one)
		wantValue(t, some.Op(api.If, no, e, some.Lit(one)), one)
		wantError(t, some.Op(api.And, some.Lit(one), e), api.ErrType)
		wantError(t, some.Op(api.Or, some.Lit(one), e), api.ErrType)
		wantError(t, some.Op(api.If, some.Lit(one), e, e), api.ErrType)
		_, err := plain().comesTo(e)
		if err == api.OK {
			t.Fatal(e)
		}
		wantError(t, some.Op(api.And, yes, e), err)
		wantError(t, some.Op(api.Or, no, e), err)
		wantError(t, some.Op(api.If, no, some.Lit(one), e), err)
		wantError(t, some.Op(api.If, yes, e, some.Lit(one)), err)
	}
}

// chain is an expression of that Depth that comes to what the innermost one comes to.
func chain(depth int, innermost api.Expr) api.Expr {
	e := innermost
	for range depth - 1 {
		e = some.Op(api.If, yes, e, no)
	}
	return e
}

// TestP14_1Deep has expressions as deep as may be, and one deeper, at each place of each Op, reckoned or not.
func TestP14_1Deep(t *testing.T) {
	w := plain()
	s := w.store()
	for op := range theRows() {
		for _, kid := range []api.Expr{yes, no, some.Lit(one), some.Named(api.Var, "principal"), some.Lit(some.Set())} {
			good := kidsOf(op, kid)
			for i := range good.Kids {
				for _, depth := range []int{2, 48, 49, 50, 100} {
					e := some.CloneExpr(good)
					e.Name = "age"
					e.Kids[i] = chain(depth, kid)
					if depth < 50 {
						wantOracle(t, e, w, s)
					} else {
						wantError(t, e, api.ErrDeep)
						wantError(t, some.Op(api.And, no, e), api.ErrDeep)
					}
				}
			}
		}
		for _, e := range []api.Expr{{Op: op, Kids: []api.Expr{slot, chain(50, yes)}}, {Op: op, Kids: []api.Expr{{}, {}, {}, {}, chain(50, yes)}}} { // ahead of ErrArg
			wantError(t, e, api.ErrDeep)
		}
	}
	wantValue(t, chain(50, some.Lit(one)), one)
	wantError(t, chain(51, some.Lit(one)), api.ErrDeep)
	wantError(t, some.Op(24, chain(50, some.Lit(one))), api.ErrDeep)
	wantError(t, some.Op(24, chain(49, some.Lit(one))), api.ErrArg)
	wantError(t, api.Expr{Op: api.Lit, V: one, Kids: []api.Expr{chain(50, yes)}}, api.ErrDeep)
	wantError(t, api.Expr{Op: api.Lit, V: one, Kids: []api.Expr{chain(49, yes)}}, api.ErrArg)
	for _, e := range []api.Expr{some.Op(api.And, no, chain(50, yes)), some.Op(api.Or, yes, chain(50, yes)), some.Op(api.If, yes, yes, chain(50, yes)), some.Op(api.If, no, chain(50, yes), yes), some.Op(api.And, slot, chain(50, yes))} {
		wantError(t, e, api.ErrDeep)
	}
	deep := no
	for range 1 << 16 {
		deep = some.Op(api.Not, deep)
	}
	wantEval(t, deep, w.q, s, api.Value{}, api.ErrDeep)
}

// TestP14_1Lit has values that aren't as they must be yet, and such as may not be.
func TestP14_1Lit(t *testing.T) {
	filled := func(kind int) api.Value {
		return api.Value{Kind: kind, Bool: true, Int: 7, Text: "t", Uid: some.Uid("U/a"), Items: []api.Value{some.Num(2), one, some.Num(2)}, Names: []string{"b", "a", "c"}}
	}
	for kind, want := range map[int]api.Value{
		api.Bool: some.Truth(true), api.Int: some.Num(7), api.Text: some.Text("t"), api.Ref: some.Ref("U", "a"),
		api.Set: some.Set(one, some.Num(2)), api.Record: some.Record("a b c", one, some.Num(2), some.Num(2)),
	} {
		wantValue(t, some.Lit(filled(kind)), want)
		wantValue(t, some.Op(api.Eq, some.Lit(filled(kind)), some.Lit(want)), some.Truth(true))
	}
	for want, l := range map[api.Errno][]api.Value{
		api.ErrArg:   {{}, {Kind: 7}, {Kind: -1}, some.Record("a b", one), some.Set(one, api.Value{}), some.Record("a", api.Value{}), filled(0)},
		api.ErrDeep:  {some.Tower(51, one), some.Tower(1<<16, one), some.Tower(51, api.Value{})},
		api.ErrLong:  {many(4097), some.Set(slices.Repeat([]api.Value{one}, 4097)...)},
		api.ErrTwice: {some.Record("a a", one, one), some.Set(some.Record("a b a", one, one, one))},
	} {
		for _, v := range l {
			wantError(t, some.Lit(v), want)
		}
	}
	wantValue(t, some.Lit(some.Tower(50, one)), canon(some.Tower(50, one)))
	wantValue(t, some.Lit(many(4096)), many(4096))
}

func TestP14_1Var(t *testing.T) {
	wantValue(t, some.Named(api.Var, "principal"), some.Ref("U", "a"))
	wantValue(t, some.Named(api.Var, "action"), some.Ref("Action", "view"))
	wantValue(t, some.Named(api.Var, "resource"), some.Ref("D", "none"))
	wantValue(t, some.Named(api.Var, "context"), canon(plain().q.Context))
	for _, name := range []string{"", "Principal", "principal ", "principals", "actions", "?principal", "user", "true", "context.n", "\x00context", "resourc"} {
		wantError(t, some.Named(api.Var, name), api.ErrArg)
	}
	wantEval(t, some.Named(api.Var, "resource"), api.Request{Principal: some.Uid("U/a")}, nil, some.Ref("", ""), api.OK)
	for _, name := range []string{"", "principal", "resource", "nobody"} {
		wantError(t, some.Named(api.Slot, name), api.ErrSlot)
	}
}

// TestP14_1Context has contexts that aren't records, or may not be: that is told where the context is asked for alone.
func TestP14_1Context(t *testing.T) {
	context := some.Named(api.Var, "context")
	for want, l := range map[api.Errno][]api.Value{
		api.OK:       {some.Truth(true), some.Num(-3), some.Text("a"), some.Ref("U", "a"), some.Set(some.Num(2), one, one), some.Record("b a", one, some.Set(one, one)), some.Tower(50, one), many(4096), {Kind: api.Int, Int: 4, Text: "no number's"}},
		api.ErrArg:   {{}, {Kind: 9}, some.Record("a b", one), some.Record("a", api.Value{})},
		api.ErrDeep:  {some.Tower(51, one), some.Tower(1<<16, one)},
		api.ErrLong:  {many(4097)},
		api.ErrTwice: {some.Record("a b a", one, one, one)},
	} {
		for _, v := range l {
			c, err := value.Canon(v)
			if err != want {
				t.Fatal(v, err)
			}
			q := api.Request{Principal: some.Uid("U/a"), Context: v}
			wantEval(t, context, q, nil, c, want)
			wantEval(t, some.Op(api.And, no, context), q, nil, some.Truth(false), api.OK)
			wantEval(t, some.Named(api.Is, "U", some.Named(api.Var, "principal")), q, nil, some.Truth(true), api.OK)
			if want != api.OK {
				wantEval(t, some.Named(api.Has, "a", context), q, nil, api.Value{}, want)
				wantEval(t, some.Op(api.MakeSet, some.Lit(one), context, slot), q, nil, api.Value{}, want)
				wantEval(t, some.Op(api.MakeSet, slot, context), q, nil, api.Value{}, api.ErrSlot)
			}
		}
	}
}

// TestP14_1Numbers holds all operators of numbers at the edges against numbers of whatever size.
func TestP14_1Numbers(t *testing.T) {
	l := []int64{0, 1, -1, 2, -2, 3, 7, 10, math.MaxInt64, math.MaxInt64 - 1, math.MinInt64, math.MinInt64 + 1, 1 << 31, -1 << 31, 1 << 32, 3037000499, 3037000500, -3037000500, 1 << 62, -1 << 62, 1<<62 - 1, math.MaxInt64 / 3, math.MinInt64 / 3}
	count := map[api.Errno]int{}
	w := world{}
	for _, a := range l {
		for _, b := range l {
			for _, op := range []int{api.Less, api.LessEq, api.Add, api.Sub, api.Mul, api.Eq} {
				count[wantOracle(t, some.Op(op, some.Lit(some.Num(a)), some.Lit(some.Num(b))), w, nil)]++
			}
		}
		count[wantOracle(t, some.Op(api.Neg, some.Lit(some.Num(a))), w, nil)]++
	}
	if count[api.OK] < 1000 || count[api.ErrRange] < 200 {
		t.Error(count)
	}
}

// TestP14_1In asks of all pairs of names, and of sets of them, in stores made by chance.
func TestP14_1In(t *testing.T) {
	m := &maker{88172645463325252}
	names := some.Uids("U/a U/b U/c G/a G/b Action/v X/a /")
	count := map[bool]int{}
	for range 100 {
		w := m.world()
		s := w.store()
		for _, a := range names {
			for _, b := range names {
				in := w.leads(a, b)
				count[in]++
				left, right := some.Lit(some.Ref(a.Type, a.Id)), some.Lit(some.Ref(b.Type, b.Id))
				wantEval(t, some.Op(api.In, left, right), w.q, s, some.Truth(in), api.OK)
				wantEval(t, some.Op(api.In, left, some.Op(api.MakeSet, right)), w.q, s, some.Truth(in), api.OK)
				c := m.uid()
				other := some.Lit(some.Ref(c.Type, c.Id))
				wantEval(t, some.Op(api.In, left, some.Op(api.MakeSet, right, other)), w.q, s, some.Truth(in || w.leads(a, c)), api.OK)
				wantEval(t, some.Op(api.In, left, some.Op(api.MakeSet, right, other, some.Lit(one))), w.q, s, api.Value{}, api.ErrType)
			}
		}
	}
	if count[true] < 1000 || count[false] < 1000 {
		t.Error(count)
	}
}

// TestP14_1Attrs has an attribute of each Kind, and names that are alike.
func TestP14_1Attrs(t *testing.T) {
	attrs := some.Record("a aa A b B::c", some.Truth(false), one, some.Text("A"), some.Set(some.Num(2), one, some.Num(2)), some.Record("z y", some.Ref("U", "x"), some.Set()))
	s, e := family.Load([]api.Entity{some.With("U/x", "U/y", attrs), some.Entity("U/y", "U/z"), some.With("U/z", "", some.Record("up", one))})
	if e != api.OK {
		t.Fatal(e)
	}
	q := api.Request{Principal: some.Uid("U/x"), Resource: some.Uid("U/y"), Context: attrs}
	canonical := canon(attrs)
	for _, of := range []string{"principal", "context"} {
		for i, name := range canonical.Names {
			wantEval(t, some.Named(api.Has, name, some.Named(api.Var, of)), q, s, some.Truth(true), api.OK)
			wantEval(t, some.Named(api.Get, name, some.Named(api.Var, of)), q, s, canonical.Items[i], api.OK)
			wantEval(t, some.Named(api.Has, name, some.Named(api.Var, "resource")), q, s, some.Truth(false), api.OK)
			wantEval(t, some.Named(api.Get, name, some.Named(api.Var, "resource")), q, s, api.Value{}, api.ErrAttr)
			wantEval(t, some.Named(api.Get, name, some.Named(api.Var, "action")), q, s, api.Value{}, api.ErrEntity)
			wantEval(t, some.Named(api.Has, name, some.Named(api.Var, "action")), q, s, some.Truth(false), api.OK)
			wantEval(t, some.Named(api.Get, name, some.Named(api.Var, "principal")), q, nil, api.Value{}, api.ErrEntity)
			wantEval(t, some.Named(api.Has, name, some.Named(api.Var, "principal")), q, nil, some.Truth(false), api.OK)
		}
		for _, name := range []string{"", "c", "B", "a ", "aaa", "up", "y"} { // neither what is nested within, nor what is above
			wantEval(t, some.Named(api.Has, name, some.Named(api.Var, of)), q, s, some.Truth(false), api.OK)
			wantEval(t, some.Named(api.Get, name, some.Named(api.Var, of)), q, s, api.Value{}, api.ErrAttr)
		}
	}
}

// TestP14_1Made has sets and records as they are made, as long and as deep as may be, and more so.
func TestP14_1Made(t *testing.T) {
	lit := func(n int64) api.Expr { return some.Lit(some.Num(n)) }
	record := func(names string, l ...api.Expr) api.Expr {
		return api.Expr{Op: api.MakeRecord, Names: strings.Fields(names), Kids: l}
	}
	wantValue(t, some.Op(api.MakeSet), some.Set())
	wantValue(t, record(""), some.Record(""))
	wantValue(t, some.Op(api.MakeSet, lit(2), lit(1), lit(2), yes), some.Set(some.Truth(true), one, some.Num(2)))
	wantValue(t, some.Op(api.MakeSet, some.Op(api.Add, lit(1), lit(2)), lit(3)), some.Set(some.Num(3)))
	wantValue(t, record("b a c", lit(1), lit(2), lit(1)), some.Record("a b c", some.Num(2), one, one))
	wantValue(t, api.Expr{Op: api.MakeRecord, Names: []string{"", "a b"}, Kids: []api.Expr{lit(1), lit(2)}}, api.Value{Kind: api.Record, Names: []string{"", "a b"}, Items: []api.Value{one, some.Num(2)}})
	wantError(t, record("a a", lit(1), lit(1)), api.ErrTwice)
	wantError(t, record("a b a", lit(1), lit(1), lit(2)), api.ErrTwice)
	wantError(t, record("a a b", lit(1), lit(1), slot), api.ErrSlot)
	for _, n := range []int{api.MaxItems, api.MaxItems + 1} {
		set, same, r := some.Op(api.MakeSet), some.Op(api.MakeSet), record("")
		for i := range n {
			set.Kids, same.Kids, r.Kids = append(set.Kids, lit(int64(i))), append(same.Kids, lit(1)), append(r.Kids, lit(int64(i)))
			r.Names = append(r.Names, strconv.Itoa(10000+i))
		}
		if n == api.MaxItems {
			wantValue(t, set, many(n))
			wantValue(t, same, some.Set(one))
			wantValue(t, some.Named(api.Get, "14095", r), some.Num(4095))
			wantValue(t, some.Op(api.ContainsAll, set, set), some.Truth(true))
			wantValue(t, some.Op(api.Contains, set, lit(4095)), some.Truth(true))
			wantValue(t, some.Op(api.Contains, set, lit(4096)), some.Truth(false))
			continue
		}
		for _, e := range []api.Expr{set, same, r} {
			wantError(t, e, api.ErrLong)
		}
		r.Kids[n-1], set.Kids[n-1] = slot, slot
		wantError(t, set, api.ErrSlot)
		wantError(t, r, api.ErrSlot)
	}
	for depth := 48; depth <= 50; depth++ {
		v := canon(some.Tower(depth, one))
		set, r := some.Op(api.MakeSet, some.Lit(v)), record("a", some.Lit(v))
		if depth == 50 {
			wantError(t, set, api.ErrDeep)
			wantError(t, r, api.ErrDeep)
			wantError(t, record("a a", lit(1), some.Lit(v)), api.ErrDeep)
			continue
		}
		wantValue(t, set, some.Set(v))
		wantValue(t, r, some.Record("a", v))
		wantValue(t, some.Op(api.Contains, set, some.Lit(v)), some.Truth(true))
	}
	nested, want := some.Op(api.MakeSet), some.Set()
	for range 49 {
		nested, want = some.Op(api.MakeSet, nested), some.Set(want)
	}
	wantValue(t, nested, want)
}

// TestP14_1Sets holds what is said of two sets against the oracle, of all sets of few values.
func TestP14_1Sets(t *testing.T) {
	w := plain()
	s := w.store()
	var sets []api.Expr
	for _, row := range some.Lists(3, []api.Value{one, some.Text("1"), some.Set(one), some.Set(some.Num(2), one)}) {
		sets = append(sets, some.Lit(some.Set(row...)))
	}
	for _, a := range sets {
		for _, b := range sets {
			for _, op := range []int{api.Contains, api.ContainsAll, api.ContainsAny, api.Eq, api.In} {
				wantOracle(t, some.Op(op, a, b), w, s)
			}
		}
		for _, item := range a.V.Items {
			wantValue(t, some.Op(api.Contains, a, some.Lit(item)), some.Truth(true))
			wantValue(t, some.Op(api.ContainsAll, a, some.Op(api.MakeSet, some.Lit(item))), some.Truth(true))
			wantValue(t, some.Op(api.ContainsAny, some.Op(api.MakeSet, some.Lit(item)), a), some.Truth(true))
		}
	}
}

// TestP14_1Chance holds expressions made by chance, and spoilt ones, against the oracle.
func TestP14_1Chance(t *testing.T) {
	m := &maker{2463534242}
	count, ops := map[api.Errno]int{}, map[int]int{}
	for range 1000 {
		w := m.world()
		s := w.store()
		for range 40 {
			e := m.expr(1+m.Below(6), 2+m.Below(5))
			err := wantOracle(t, e, w, s)
			count[err]++
			if err == api.OK {
				ops[e.Op]++
			}
			count[wantOracle(t, m.spoilt(e), w, s)]++
		}
	}
	for err, least := range map[api.Errno]int{api.OK: 20000, api.ErrArg: 1000, api.ErrDeep: 50, api.ErrTwice: 50, api.ErrRange: 50, api.ErrEntity: 1000, api.ErrType: 1000, api.ErrAttr: 1000, api.ErrSlot: 100} {
		if count[err] < least {
			t.Error(err, count)
		}
	}
	for op := range theRows() {
		if ops[op] < 50 && op != api.Slot {
			t.Error(op, ops)
		}
	}
}

func wantHolds(t *testing.T, c api.Scope, u api.Uid, s *family.Store, want bool, wantErr api.Errno) {
	t.Helper()
	if is, err := Holds(c, u, s); is != want || err != wantErr {
		t.Fatalf("Holds(%v, %v): %t, %d; not %t, %d", c, u, is, err, want, wantErr)
	}
}

func TestP14_2Holds(t *testing.T) {
	s := plain().store()
	for _, c := range []struct {
		scope api.Scope
		name  string
		want  bool
	}{
		{api.Scope{}, "U/a", true},
		{api.Scope{}, "X/x", true},
		{api.Scope{Kind: api.Equal, Uid: some.Uid("U/a")}, "U/a", true},
		{api.Scope{Kind: api.Equal, Uid: some.Uid("U/a")}, "U/b", false},
		{api.Scope{Kind: api.Equal, Uid: some.Uid("U/a")}, "G/a", false},
		{api.Scope{Kind: api.Equal, Uid: some.Uid("U/b")}, "U/a", false}, // though it is in it
		{api.Scope{Kind: api.Equal, Uid: some.Uid("X/x")}, "X/x", true},
		{api.Scope{Kind: api.Within, Uid: some.Uid("U/a")}, "U/a", true},
		{api.Scope{Kind: api.Within, Uid: some.Uid("U/b")}, "U/a", true},
		{api.Scope{Kind: api.Within, Uid: some.Uid("G/top")}, "U/a", true},
		{api.Scope{Kind: api.Within, Uid: some.Uid("U/a")}, "U/b", false},
		{api.Scope{Kind: api.Within, Uid: some.Uid("X/x")}, "X/x", true},
		{api.Scope{Kind: api.Within, Uid: some.Uid("X/x")}, "X/y", false},
		{api.Scope{Kind: api.OfType, Type: "U"}, "U/a", true},
		{api.Scope{Kind: api.OfType, Type: "U"}, "U/nobody", true},
		{api.Scope{Kind: api.OfType, Type: "U"}, "G/a", false},
		{api.Scope{Kind: api.OfType, Type: "U"}, "U::V/a", false},
		{api.Scope{Kind: api.OfType, Type: "U", Slot: true, Uid: some.Uid("X/x")}, "U/a", true},
		{api.Scope{Kind: api.Any, Slot: true, Type: "X", Uid: some.Uid("X/x")}, "U/a", true},
		{api.Scope{Kind: api.Both, Type: "U", Uid: some.Uid("G/top")}, "U/a", true},
		{api.Scope{Kind: api.Both, Type: "G", Uid: some.Uid("G/top")}, "U/a", false},
		{api.Scope{Kind: api.Both, Type: "U", Uid: some.Uid("X/x")}, "U/a", false},
		{api.Scope{Kind: api.Both, Type: "U", Uid: some.Uid("U/a")}, "U/a", true},
		{api.Scope{Kind: api.OneOf, List: some.Uids("X/x G/top")}, "U/a", true},
		{api.Scope{Kind: api.OneOf, List: some.Uids("U/a X/x")}, "U/a", true},
		{api.Scope{Kind: api.OneOf, List: some.Uids("X/x U/c")}, "U/a", false},
		{api.Scope{Kind: api.OneOf}, "U/a", false},
		{api.Scope{Kind: api.OneOf, Uid: some.Uid("U/a"), Type: "U"}, "U/a", false},
		{api.Scope{Kind: api.OneOf, Slot: true, List: some.Uids("Action/all")}, "Action/view", true},
	} {
		wantHolds(t, c.scope, some.Uid(c.name), s, c.want, api.OK)
	}
	for _, kind := range []int{api.Equal, api.Within, api.Both} {
		wantHolds(t, api.Scope{Kind: kind, Slot: true, Type: "U", Uid: some.Uid("U/a")}, some.Uid("U/a"), s, false, api.ErrSlot)
		wantHolds(t, api.Scope{Kind: kind, Slot: true}, some.Uid("U/a"), nil, false, api.ErrSlot)
	}
	for _, kind := range []int{math.MinInt, -1, 6, 7, 256, math.MaxInt} {
		for _, slotted := range []bool{false, true} {
			wantHolds(t, api.Scope{Kind: kind, Slot: slotted, Type: "U", Uid: some.Uid("U/a"), List: some.Uids("U/a")}, some.Uid("U/a"), s, false, api.ErrArg)
		}
	}
}

// TestP14_2All asks of all scopes of few names, and of all of these names.
func TestP14_2All(t *testing.T) {
	w := plain()
	s := w.store()
	names := some.Uids("U/a U/b G/a G/top Action/view X/x /")
	count := map[string]int{}
	for kind := -1; kind <= 7; kind++ {
		for _, slotted := range []bool{false, true} {
			for _, typ := range []string{"U", "G", "", "a"} {
				for _, of := range names {
					for _, list := range some.Lists(2, names) {
						c := api.Scope{Kind: kind, Type: typ, Uid: of, Slot: slotted, List: list}
						for _, u := range names {
							want, err := w.takes(c, u)
							count[fmt.Sprint(kind, want, err)]++
							wantHolds(t, c, u, s, want, err)
						}
					}
				}
			}
		}
	}
	if len(count) != 17 { // three kinds that there aren't, Any, two answers of the others, and ErrSlot of three
		t.Error(len(count), count)
	}
}

// TestP14_2Chance asks in stores made by chance.
func TestP14_2Chance(t *testing.T) {
	m := &maker{1181783497276652981}
	for range 2000 {
		w := m.world()
		s := w.store()
		for range 50 {
			c := api.Scope{Kind: m.Below(8) - 1, Type: pick(m, "U", "G", "Action", ""), Uid: m.uid(), Slot: m.Below(5) == 0}
			for range m.Below(4) {
				c.List = append(c.List, m.uid())
			}
			u := m.uid()
			want, err := w.takes(c, u)
			wantHolds(t, c, u, s, want, err)
		}
	}
}

// dirty is the expression with what its Ops don't have in all fields.
func dirty(e api.Expr) api.Expr {
	c := some.CloneExpr(e)
	if c.Op != api.Lit {
		c.V = some.Tower(51, api.Value{Kind: 9})
	}
	if !slices.Contains([]int{api.Var, api.Is, api.Has, api.Get}, c.Op) {
		c.Name = "junk"
	}
	if c.Op != api.MakeRecord {
		c.Names = []string{"junk", "junk"}
	}
	for i := range c.Kids {
		c.Kids[i] = dirty(c.Kids[i])
	}
	return c
}

// TestP14_3NothingElse has the same expressions with fields that their Ops don't have, of the entities in another order, of a store that was asked of all else, and of a value's other forms.
func TestP14_3NothingElse(t *testing.T) {
	m := &maker{6364136223846793005}
	for range 500 {
		w := m.world()
		turned := w.store()
		l := some.CloneAll(w.l)
		m.Mix(len(l), func(i, j int) { l[i], l[j] = l[j], l[i] })
		for i := range l {
			slices.Reverse(l[i].Parents)
		}
		mixed := world{w.q, l}.store()
		for range 20 {
			e := m.expr(1+m.Below(6), 2+m.Below(5))
			v, err := Eval(e, w.q, w.store())
			wantEval(t, e, w.q, turned, v, err)
			wantEval(t, e, w.q, mixed, v, err)
			wantEval(t, dirty(e), w.q, mixed, v, err)
			q := w.q
			q.Context = canon(q.Context)
			wantEval(t, e, q, mixed, v, err)
			wantEval(t, e, w.q, turned, v, err)
		}
	}
}

// TestP14_3Fields has only what an expression asks for: of what isn't asked for nothing is told.
func TestP14_3Fields(t *testing.T) {
	w := plain()
	s := w.store()
	for text, q := range map[string]api.Request{
		`principal in G::"top"`: {Principal: w.q.Principal},
		`action is Action`:      {Action: w.q.Action},
		`!(resource has a)`:     {Resource: w.q.Resource},
		`context.n == 1`:        {Context: w.q.Context},
		`1 < 2`:                 {},
		`U::"a".age == 7`:       {},
	} {
		wantEval(t, parsed(t, text), q, s, some.Truth(true), api.OK)
		wantEval(t, parsed(t, text), w.q, s, some.Truth(true), api.OK)
	}
}

// TestP14_3NilStore has no entities, in all forms.
func TestP14_3NilStore(t *testing.T) {
	empty, _ := family.Load(nil)
	w := world{q: plain().q}
	m := &maker{88172645463325252}
	count := 0
	for range 5000 {
		e := m.expr(1+m.Below(6), 2+m.Below(5))
		for _, s := range []*family.Store{nil, empty, {}} {
			if wantOracle(t, e, w, s) == api.OK {
				count++
			}
		}
		c, u := api.Scope{Kind: m.Below(6), Type: "U", Uid: m.uid(), List: []api.Uid{m.uid()}}, m.uid()
		want, err := w.takes(c, u)
		for _, s := range []*family.Store{nil, empty, {}} {
			wantHolds(t, c, u, s, want, err)
		}
	}
	if count < 3000 {
		t.Error(count)
	}
}

// TestRulesUnchanged has spare room in the lists that are handed in: they stay as they are, and so does the store; asked twice, the answer is the same.
func TestRulesUnchanged(t *testing.T) {
	m := &maker{2463534242}
	for range 3000 {
		w := m.world()
		s := w.store()
		e := some.CloneExpr(some.Op(api.MakeSet, m.expr(1+m.Below(6), 4), m.expr(1+m.Below(6), 4), some.Lit(m.value(api.Set, 4)), slot))
		q := w.q
		q.Context = some.Clone(some.Set(q.Context, one))
		before, context := some.CloneExpr(e), some.Clone(q.Context)
		q.Context = q.Context.Items[0]
		used := e
		used.Kids = e.Kids[:3]
		v, err := Eval(used, q, s)
		wantEval(t, used, q, s, v, err)
		if !some.EqualExpr(e, before) || !some.Equal(q.Context, context.Items[0]) || !some.EqualAll(s.All(), w.l) {
			t.Fatal(before, e, q)
		}
		list := append(some.Uids("U/a G/a"), some.Uid("X/last"))
		Holds(api.Scope{Kind: api.OneOf, List: list[:2]}, m.uid(), s)
		if !slices.Equal(list, some.Uids("U/a G/a X/last")) {
			t.Fatal(list)
		}
	}
}

// cells are where a value's lists, and what there is room for behind them, lie.
func cells(v api.Value) (items []*api.Value, names []*string) {
	for i := range v.Items[:cap(v.Items)] {
		items = append(items, &v.Items[:cap(v.Items)][i])
	}
	for i := range v.Names[:cap(v.Names)] {
		names = append(names, &v.Names[:cap(v.Names)][i])
	}
	for _, item := range v.Items {
		i, n := cells(item)
		items, names = append(items, i...), append(names, n...)
	}
	return items, names
}

// wantApart holds that no cell is there twice.
func wantApart(t *testing.T, values ...api.Value) {
	t.Helper()
	items, names := map[*api.Value]bool{}, map[*string]bool{}
	for _, v := range values {
		i, n := cells(v)
		for _, cell := range i {
			if items[cell] {
				t.Fatal("items", values)
			}
			items[cell] = true
		}
		for _, cell := range n {
			if names[cell] {
				t.Fatal("names", values)
			}
			names[cell] = true
		}
	}
}

// TestRulesNewMemory has lists that come to be in an answer several times.
func TestRulesNewMemory(t *testing.T) {
	w := plain()
	s := w.store()
	list := []api.Value{some.Set(one), some.Record("z y", some.Set(one), some.Set())}
	w.q.Context = api.Value{Kind: api.Record, Names: []string{"s", "r", "o"}, Items: []api.Value{{Kind: api.Set, Items: list}, {Kind: api.Record, Names: []string{"b", "a"}, Items: list}, one}}
	for _, text := range []string{
		`context`, `context.s`, `context.r`, `context.r.b`, `[context, context.s, context.r]`, `{a: context.r, b: context.r, c: context.s}`, `{a: context, b: context}`, `{a: principal.deep, b: principal.deep, c: principal.tags, d: principal.tags}`,
		`if true then context.s else 1`, `if false then 1 else principal.tags`, `{a: {b: context.s}, c: {b: context.s}}.a`, `[[[1]], [1], {a: [1], b: [1]}]`, `principal.tags`, `principal.deep`, `{a: U::"a".tags}`,
	} {
		e := parsed(t, text)
		v, err := Eval(e, w.q, s)
		again, _ := Eval(e, w.q, s)
		if err != api.OK || len(v.Items) == 0 {
			t.Fatal(text, v, err)
		}
		wantApart(t, v, again)
		was := some.Clone(v)
		for _, of := range s.All() {
			i, n := cells(of.Attrs)
			if len(i)+len(n) > 0 {
				wantApart(t, v, of.Attrs)
			}
		}
		some.Spoil(again)
		wantEval(t, e, w.q, s, was, api.OK)
		if !some.Equal(v, was) {
			t.Fatal(text, v)
		}
	}
	context := some.Clone(w.q.Context)
	for _, e := range []api.Expr{some.Lit(w.q.Context), some.Named(api.Var, "context"), some.Named(api.Get, "r", some.Lit(w.q.Context)), some.Op(api.MakeSet, some.Lit(w.q.Context), some.Lit(w.q.Context))} {
		v, err := Eval(e, w.q, s)
		if err != api.OK {
			t.Fatal(e, err)
		}
		handed, _ := cells(w.q.Context)
		answered, _ := cells(v)
		for _, cell := range answered {
			if slices.Contains(handed, cell) {
				t.Fatal(e, v)
			}
		}
		some.Spoil(v)
		if !some.Equal(w.q.Context, context) {
			t.Fatal(e, w.q.Context)
		}
	}
	names := []string{"b", "a"}
	v, _ := Eval(api.Expr{Op: api.MakeRecord, Names: names, Kids: []api.Expr{yes, no}}, w.q, s)
	some.Spoil(v)
	if !slices.Equal(names, []string{"b", "a"}) {
		t.Error(names)
	}
}

// TestRulesNil has empty lists where others are nil.
func TestRulesNil(t *testing.T) {
	w := plain()
	s := w.store()
	for _, e := range leaves() {
		filled := e
		if filled.Kids == nil {
			filled.Kids = []api.Expr{}
		}
		filled.Names = []string{}
		v, err := w.comesTo(e)
		wantEval(t, filled, w.q, s, v, err)
	}
	wantValue(t, api.Expr{Op: api.MakeSet, Kids: []api.Expr{}}, some.Set())
	wantValue(t, api.Expr{Op: api.MakeRecord, Names: []string{}, Kids: []api.Expr{}}, some.Record(""))
	wantValue(t, api.Expr{Op: api.MakeRecord, Names: []string{}}, some.Record(""))
	wantHolds(t, api.Scope{Kind: api.OneOf, List: []api.Uid{}}, some.Uid("U/a"), s, false, api.OK)
}

// TestRulesEnds has what may not be, or has no end: some answer is told of it.
func TestRulesEnds(t *testing.T) {
	ring := make([]api.Expr, 2)
	ring[0], ring[1] = yes, api.Expr{Op: api.And, Kids: ring}
	items := make([]api.Value, 2)
	items[0], items[1] = one, api.Value{Kind: api.Set, Items: items}
	w := plain()
	s := w.store()
	for op := -1; op <= 24; op++ {
		for count := range 4 {
			wantEval(t, api.Expr{Op: op, Kids: append(slices.Clone(ring[1:]), slices.Repeat([]api.Expr{yes}, count)...), Names: []string{"a", "b"}}, w.q, s, api.Value{}, api.ErrDeep)
		}
		Eval(api.Expr{Op: op, V: items[1]}, api.Request{Context: items[1]}, s)
		Eval(api.Expr{Op: op, V: api.Value{Kind: math.MinInt}, Name: "context", Kids: []api.Expr{{}, {}}, Names: []string{"a", "a"}}, api.Request{Context: items[1]}, nil)
	}
	wantEval(t, some.Lit(items[1]), w.q, s, api.Value{}, api.ErrDeep)
	wantEval(t, some.Named(api.Var, "context"), api.Request{Context: items[1]}, s, api.Value{}, api.ErrDeep)
	long := strings.Repeat("x", 1<<20)
	for _, name := range []string{long, "\xff", "\x00"} {
		Eval(some.Named(api.Get, name, some.Named(api.Var, "context")), w.q, s)
		wantEval(t, some.Named(api.Is, name, some.Named(api.Var, "principal")), api.Request{Principal: api.Uid{Type: name}}, s, some.Truth(true), api.OK)
		wantHolds(t, api.Scope{Kind: api.Both, Type: name, Uid: api.Uid{Type: name}}, api.Uid{Type: name}, s, true, api.OK)
	}
	Holds(api.Scope{}, api.Uid{}, nil)
}
