package link

import (
	"fmt"
	"maps"
	"math"
	"slices"
	"strconv"
	"strings"
	"testing"

	"chamberlain/api"
	"chamberlain/eval"
	"chamberlain/family"
	"chamberlain/policy"
	"chamberlain/printer"
	"chamberlain/some"
)

var (
	ann, bob  = some.Uid("User/a"), some.Uid("A::B/b\"")
	aSlot     = some.Named(api.Slot, "principal")
	rSlot     = some.Named(api.Slot, "resource")
	someNames = [][]api.Uid{nil, {}, {ann}, {bob}, {ann, bob}, {ann, ann}, {ann, bob, ann}}
)

// parsed is the one policy of a text.
func parsed(t *testing.T, text string) api.Policy {
	t.Helper()
	l, e, at := policy.Parse(text)
	if e != api.OK || len(l) != 1 {
		t.Fatal(text, e, at)
	}
	return l[0]
}

// wantPolicy asks for a policy, alike in all fields.
func wantPolicy(t *testing.T, p api.Policy, id string, principal, resource []api.Uid, want api.Policy) {
	t.Helper()
	got, e := Link(p, id, principal, resource)
	if e != api.OK || !some.EqualPolicies([]api.Policy{got}, []api.Policy{want}) {
		t.Fatalf("Link(%+v, %q, %v, %v): %+v, %d; not %+v", p, id, principal, resource, got, e, want)
	}
}

// wantError asks for an error, and for nothing beside it.
func wantError(t *testing.T, p api.Policy, id string, principal, resource []api.Uid, want api.Errno) {
	t.Helper()
	got, e := Link(p, id, principal, resource)
	if e != want || !some.EqualPolicies([]api.Policy{got}, []api.Policy{{}}) {
		t.Fatalf("Link(%+v, %q, %v, %v): %+v, %d; not %d", p, id, principal, resource, got, e, want)
	}
}

// wantTold asks for what the oracle tells, and answers which error that is.
func wantTold(t *testing.T, p api.Policy, id string, principal, resource []api.Uid) api.Errno {
	t.Helper()
	want, wantErr := told(p, id, principal, resource)
	before := laidOut(p)
	got, e := Link(p, id, principal, resource)
	if spots := laidOut(got); e != wantErr || !maps.Equal(spots, want) {
		t.Fatalf("Link(%+v, %q, %v, %v): %+v, %d; %d", p, id, principal, resource, got, e, wantErr)
	}
	if !maps.Equal(laidOut(p), before) {
		t.Fatalf("Link(%+v, %q, %v, %v) changed it", p, id, principal, resource)
	}
	return e
}

// when is a template of both with one condition.
func when(e api.Expr) api.Policy {
	return api.Policy{Principal: api.Scope{Kind: api.Equal, Slot: true}, Resource: api.Scope{Kind: api.Equal, Slot: true}, Conds: []api.Cond{{When: true, E: e}}}
}

// wantFilled asks for what becomes of an expression, of ann and bob.
func wantFilled(t *testing.T, e, want api.Expr) {
	t.Helper()
	filled := api.Scope{Kind: api.Equal}
	p := api.Policy{Id: "x", Principal: filled, Resource: filled, Conds: []api.Cond{{When: true, E: want}}}
	p.Principal.Uid, p.Resource.Uid = ann, bob
	wantPolicy(t, when(e), "x", []api.Uid{ann}, []api.Uid{bob}, p)
	for _, names := range [][2][]api.Uid{{{ann}, {bob}}, {{bob}, {ann}}, {{ann}, {ann}}} {
		wantTold(t, when(e), "x", names[0], names[1])
	}
}

func TestP15_1Template(t *testing.T) {
	slots := some.Op(api.And, aSlot, rSlot)
	for kind := -1; kind < 8; kind++ {
		for i := range 8 {
			p := api.Policy{Id: "?principal", Permit: i%2 == 0, Conds: []api.Cond{{E: slots}}}
			p.Principal = api.Scope{Kind: kind, Slot: i&1 > 0, Uid: some.Uid("?principal/?principal")}
			p.Resource = api.Scope{Kind: kind, Slot: i&2 > 0, Type: "?resource"}
			p.Action = api.Scope{Kind: kind, Slot: i&4 > 0}
			if got := Template(p); got != (i&3 > 0) {
				t.Errorf("Template(%+v): %t", p, got)
			}
		}
	}
	for text, want := range map[string]bool{
		`permit(principal, action, resource);`:                                               false,
		`permit(principal == A::"a", action, resource in A::"?resource");`:                   false,
		`permit(principal == ?principal, action, resource);`:                                 true,
		`forbid(principal in ?principal, action, resource);`:                                 true,
		`permit(principal is A in ?principal, action, resource is B) when { ?principal };`:   true,
		`permit(principal, action, resource == ?resource);`:                                  true,
		`permit(principal is A, action, resource in ?resource);`:                             true,
		`forbid(principal, action, resource is A in ?resource);`:                             true,
		`forbid(principal in ?principal, action == A::"a", resource is A in ?resource);`:     true,
		`forbid(principal is A, action in [A::"a"], resource is A) unless { "?principal" };`: false,
	} {
		if got := Template(parsed(t, text)); got != want {
			t.Error(text, got)
		}
	}
	if Template(api.Policy{}) {
		t.Error("a policy of nothing")
	}
}

// TestP15_1Example is the chapter's.
func TestP15_1Example(t *testing.T) {
	want := parsed(t, `@id("x") permit(principal == User::"a", action, resource);`)
	wantPolicy(t, parsed(t, `permit(principal == ?principal, action, resource);`), "x", []api.Uid{ann}, nil, want)
}

// TestP15_1Texts has templates as texts: what is linked is what is read of the text with names in it.
func TestP15_1Texts(t *testing.T) {
	scopes := [][2]string{
		{`principal == ?principal, action, resource`, "p"}, {`principal in ?principal, action in [A::"a", Action::"b"], resource is A`, "p"}, {`principal is A::B in ?principal, action == Action::"c", resource in A::"a"`, "p"},
		{`principal, action, resource == ?resource`, "r"}, {`principal in A::"a", action in [], resource in ?resource`, "r"}, {`principal is A, action in Action::"b", resource is A::B in ?resource`, "r"},
		{`principal == ?principal, action, resource == ?resource`, "pr"}, {`principal in ?principal, action, resource is A in ?resource`, "pr"}, {`principal is A in ?principal, action in [A::"a"], resource in ?resource`, "pr"},
	}
	conds := [][2]string{
		{``, ""}, {`when { true }`, ""}, {`when { ?principal == principal }`, "p"}, {`unless { resource in [?resource, A::"a"] }`, "r"}, {`when { ?principal == ?resource } unless { ?resource == ?principal }`, "pr"},
		{`when { principal in ?principal } when { 1 } unless { {principal: ?principal, resource: [[?principal], ?principal.principal]} }`, "p"},
		{`unless { !(-(if ?principal then ?principal else ?principal)) } when { ?principal has principal && ?principal is principal || ?principal.principal["resource"] < 1 }`, "p"},
		{`when { [?resource].contains(?resource) && ?resource.containsAll([?resource]) || ?resource.a.containsAny(?resource) } when { {"?": ?resource + ?resource * ?resource - 1 <= -?resource} }`, "r"},
		{`when { principal == action } unless { {principal: resource, resource: principal} } when { context.principal.resource has principal }`, ""},
		{`when { if if ?principal then ?resource else 1 then {a: {b: ?principal}} else [[], [?resource, ?resource]] in ?principal }`, "pr"},
	}
	linked := 0
	for _, scope := range scopes {
		for _, cond := range conds {
			for _, effect := range []string{"permit", "forbid"} {
				if strings.Trim(cond[1], scope[1]) != "" { // a slot that no scope has
					continue
				}
				text := `@id("%s") ` + effect + "(" + scope[0] + ") " + cond[0] + ";"
				var principal, resource []api.Uid
				if strings.Contains(scope[1], "p") {
					principal = []api.Uid{ann}
				}
				if strings.Contains(scope[1], "r") {
					resource = []api.Uid{bob}
				}
				named := strings.NewReplacer("?principal", `User::"a"`, "?resource", `A::B::"b\""`).Replace(text)
				wantPolicy(t, parsed(t, fmt.Sprintf(text, "of all")), "b", principal, resource, parsed(t, fmt.Sprintf(named, "b")))
				linked++
			}
		}
	}
	if linked < 90 {
		t.Error(linked)
	}
}

// TestP15_1Counts has each number of names with each Kind of scopes, with and without slots.
func TestP15_1Counts(t *testing.T) {
	counts := map[api.Errno]int{}
	for kind := -1; kind < 8; kind++ {
		for i := range 8 {
			p := api.Policy{Id: "t", Permit: true, Principal: api.Scope{Kind: kind, Slot: i&1 > 0}, Resource: api.Scope{Kind: kind, Slot: i&2 > 0}, Action: api.Scope{Kind: kind, Slot: i&4 > 0}}
			p.Conds = []api.Cond{{E: aSlot}, {When: true, E: rSlot}}
			for _, principal := range someNames {
				for _, resource := range someNames {
					counts[wantTold(t, p, "x", principal, resource)]++
				}
			}
		}
	}
	one, none := []api.Uid{ann}, []api.Uid(nil)
	of := func(text string) api.Policy { return parsed(t, text) }
	for _, p := range []api.Policy{of(`permit(principal, action, resource);`), of(`permit(principal == User::"a", action, resource == User::"a");`), {}, {Action: api.Scope{Kind: api.Equal, Slot: true}}, {Conds: []api.Cond{{E: aSlot}, {E: rSlot}}}} {
		for _, names := range [][2][]api.Uid{{none, none}, {one, none}, {none, one}, {one, one}} { // none is a template
			wantError(t, p, "x", names[0], names[1], api.ErrSlot)
		}
	}
	p := of(`permit(principal == ?principal, action, resource);`)
	for _, names := range [][2][]api.Uid{{none, none}, {none, one}, {one, one}, {{ann, ann}, none}, {{ann, bob}, none}, {{}, {}}} {
		wantError(t, p, "x", names[0], names[1], api.ErrSlot)
	}
	p = of(`permit(principal, action, resource in ?resource);`)
	for _, names := range [][2][]api.Uid{{none, none}, {one, none}, {one, one}, {none, {ann, ann}}, {none, {ann, bob, ann}}, {{}, {}}} {
		wantError(t, p, "x", names[0], names[1], api.ErrSlot)
	}
	p = of(`permit(principal == ?principal, action, resource in ?resource);`)
	for _, names := range [][2][]api.Uid{{none, none}, {one, none}, {none, one}, {one, {ann, bob}}, {{ann, ann}, one}, {{ann, bob}, {}}} {
		wantError(t, p, "x", names[0], names[1], api.ErrSlot)
	}
	if counts[api.OK] < 9*2*(2*2+2*2+4) || counts[api.ErrSlot] < 1000 {
		t.Error(counts)
	}
}

// TestP15_1Scopes has scopes with something in all fields: but for a slot's Uid all of it stays.
func TestP15_1Scopes(t *testing.T) {
	for kind := -1; kind < 8; kind++ {
		full := func(name string, slot bool) api.Scope {
			return api.Scope{Kind: kind, Type: name, Uid: some.Uid(name + "/old"), Slot: slot, List: []api.Uid{some.Uid(name + "/1"), ann, some.Uid(name + "/1")}}
		}
		for _, permit := range []bool{false, true} {
			for _, id := range []string{"", "t", "x y", "\xff", "policy0"} {
				p := api.Policy{Id: "t", Permit: permit, Principal: full("p", true), Action: full("a", true), Resource: full("r", true)}
				want := api.Policy{Id: id, Permit: permit, Principal: full("p", false), Action: full("a", true), Resource: full("r", false)}
				want.Principal.Uid, want.Resource.Uid = ann, bob
				wantPolicy(t, p, id, []api.Uid{ann}, []api.Uid{bob}, want)
				p.Resource.Slot, want.Resource = false, full("r", false)
				wantPolicy(t, p, id, []api.Uid{ann}, nil, want)
				want.Principal.Uid = api.Uid{}
				wantPolicy(t, p, id, []api.Uid{{}}, nil, want)
				p.Principal.Slot, p.Resource.Slot, want.Principal, want.Resource.Uid = false, true, full("p", false), bob
				wantPolicy(t, p, id, nil, []api.Uid{bob}, want)
				p.Action.Slot, want.Action.Slot = false, false
				wantPolicy(t, p, id, nil, []api.Uid{bob}, want)
			}
		}
	}
}

// TestP15_1Places has a slot at each place of each Op, with any number of Kids, and within one more.
func TestP15_1Places(t *testing.T) {
	a, b := some.Lit(api.Value{Kind: api.Ref, Uid: ann}), some.Lit(api.Value{Kind: api.Ref, Uid: bob})
	wantFilled(t, aSlot, a)
	wantFilled(t, rSlot, b)
	for op := -1; op < 26; op++ {
		for count := 1; count < 5; count++ {
			for place := range count {
				e := api.Expr{Op: op, V: some.Text("principal"), Name: "other", Names: []string{"principal", "resource"}, Kids: slices.Repeat([]api.Expr{some.Lit(some.Num(1))}, count)}
				around := func(kid api.Expr) api.Expr {
					c := some.CloneExpr(e)
					c.Kids[place] = kid
					return c
				}
				wantFilled(t, around(aSlot), around(a))
				wantFilled(t, around(rSlot), around(b))
				wantFilled(t, around(around(some.Op(api.Eq, aSlot, rSlot))), around(around(some.Op(api.Eq, a, b))))
				wantFilled(t, around(e), around(e))
				wantFilled(t, e, e)
			}
		}
	}
}

// TestP15_1OneSlot has conditions with both slots where one scope alone has its own: the other one stays, and what stands in it is gone through.
func TestP15_1OneSlot(t *testing.T) {
	a := some.Lit(api.Value{Kind: api.Ref, Uid: ann})
	for slot, other := range map[string]string{"principal": "resource", "resource": "principal"} {
		own, stays := some.Named(api.Slot, slot), some.Named(api.Slot, other)
		p := api.Policy{Id: "t", Conds: []api.Cond{{When: true, E: own}, {E: stays}, {E: some.Op(api.And, stays, own)}, {E: some.Named(api.Slot, other, own, stays)}}}
		want := api.Policy{Id: "x", Conds: []api.Cond{{When: true, E: a}, {E: stays}, {E: some.Op(api.And, stays, a)}, {E: some.Named(api.Slot, other, a, stays)}}}
		lists := [2][]api.Uid{{ann}, nil}
		if slot == "principal" {
			p.Principal.Slot, want.Principal.Uid = true, ann
		} else {
			p.Resource.Slot, want.Resource.Uid, lists = true, ann, [2][]api.Uid{nil, {ann}}
		}
		wantPolicy(t, p, "x", lists[0], lists[1], want)
		wantTold(t, p, "x", lists[0], lists[1])
	}
}

// TestP15_1OtherNames has slots of other names, slots with more than a name, and slots' names at all places where they are none.
func TestP15_1OtherNames(t *testing.T) {
	for _, name := range []string{"", "action", "context", "Principal", "principal ", " resource", "?principal", "principals", "princip", "resource\x00", "\xff"} {
		wantFilled(t, some.Named(api.Slot, name), some.Named(api.Slot, name))
		wantFilled(t, some.Named(api.Slot, name, aSlot), some.Named(api.Slot, name, some.Lit(api.Value{Kind: api.Ref, Uid: ann})))
	}
	v := api.Value{Kind: api.Record, Bool: true, Int: math.MinInt64, Text: "principal", Uid: some.Uid("principal/resource"), Names: []string{"principal", "resource"}, Items: []api.Value{some.Text("?principal"), some.Ref("?resource", "?resource"), some.Tower(9, some.Text("principal"))}}
	for _, name := range []string{"principal", "resource", "action", "?principal", ""} {
		for op := -1; op < 26; op++ {
			e := api.Expr{Op: op, V: v, Name: name, Names: []string{"resource", "principal", "?principal"}}
			if op != api.Slot {
				wantFilled(t, e, e)
				wantFilled(t, some.Op(api.Not, e, e), some.Op(api.Not, e, e))
			}
		}
	}
	for _, e := range []api.Expr{ // nothing else of a slot that is filled stays
		{Op: api.Slot, Name: "principal", V: v}, {Op: api.Slot, Name: "principal", Names: []string{"principal"}}, {Op: api.Slot, Name: "principal", Kids: []api.Expr{rSlot, aSlot}},
		{Op: api.Slot, Name: "principal", V: v, Names: []string{""}, Kids: []api.Expr{{Op: api.Slot, Name: "principal", Kids: []api.Expr{rSlot}}, {}}},
	} {
		a := some.Lit(api.Value{Kind: api.Ref, Uid: ann})
		wantFilled(t, e, a)
		wantFilled(t, some.Op(api.In, e, e, some.Op(api.MakeSet, e)), some.Op(api.In, a, a, some.Op(api.MakeSet, a)))
	}
}

// TestP15_1NamesOfAllKinds fills slots with names of which nothing is asked.
func TestP15_1NamesOfAllKinds(t *testing.T) {
	e := some.Op(api.Eq, aSlot, rSlot)
	for _, a := range []api.Uid{{}, {Type: "principal", Id: "resource"}, {Type: "no path", Id: "\xff"}, {Id: strings.Repeat("x", 1<<17)}, {Type: "?principal", Id: "?resource"}, {Type: "Action", Id: "a"}} {
		for _, b := range []api.Uid{{}, a, {Type: "resource", Id: "principal"}} {
			if e := wantTold(t, when(e), a.Id, []api.Uid{a}, []api.Uid{b}); e != api.OK {
				t.Error(a, b, e)
			}
		}
	}
}

// TestP15_1Conds has any row of conditions: each one is there, in order, with its When.
func TestP15_1Conds(t *testing.T) {
	var pieces []api.Cond
	for _, is := range []bool{false, true} {
		for _, e := range []api.Expr{aSlot, rSlot, some.Lit(some.Truth(true)), some.Op(api.Or, rSlot, aSlot), {}} {
			pieces = append(pieces, api.Cond{When: is, E: e})
		}
	}
	for _, l := range some.Lists(3, pieces) {
		p := api.Policy{Permit: true, Principal: api.Scope{Kind: api.Within, Slot: true}, Resource: api.Scope{Kind: api.Both, Type: "A", Slot: true}, Conds: l}
		if e := wantTold(t, p, "x", []api.Uid{ann}, []api.Uid{bob}); e != api.OK {
			t.Error(l, e)
		}
		p.Resource.Slot = false
		if e := wantTold(t, p, "x", []api.Uid{ann}, nil); e != api.OK {
			t.Error(l, e)
		}
	}
}

func TestP15_1Chance(t *testing.T) {
	m := &maker{88172645463325252}
	counts := map[api.Errno]int{}
	for range 20000 {
		p := m.policy()
		counts[wantTold(t, p, m.name(), m.names(p.Principal), m.names(p.Resource))]++
	}
	if counts[api.OK] < 5000 || counts[api.ErrSlot] < 2000 {
		t.Error(counts)
	}
}

// chain is so many levels deep: a kid at the last of so many places, of an Op.
func chain(levels, op, count int, innermost api.Expr) api.Expr {
	e := innermost
	for range levels - 1 {
		kids := slices.Repeat([]api.Expr{some.Lit(some.Num(1))}, count)
		kids[count-1] = e
		e = api.Expr{Op: op, Kids: kids}
	}
	return e
}

// TestP15_1Deep has conditions as deep as anything is promised of, and what is deeper than an expression or a value may be elsewhere.
func TestP15_1Deep(t *testing.T) {
	for _, levels := range []int{49, 50, 51, 52, 100, 1000, 1 << 16, 1<<16 + 1} {
		for _, c := range [][2]int{{api.Not, 1}, {api.If, 3}, {api.Slot, 1}, {0, 2}} {
			p := when(chain(levels, c[0], c[1], aSlot))
			p.Conds = append(p.Conds, api.Cond{E: chain(levels, c[0], c[1], some.Op(api.MakeSet, rSlot, some.Lit(some.Num(2))))})
			got, e := Link(p, "x", []api.Uid{ann}, []api.Uid{bob})
			if e != api.OK || len(got.Conds) != 2 {
				t.Fatal(levels, c, e, len(got.Conds))
			}
			wantInnermost(t, got.Conds[0].E, levels, some.Lit(api.Value{Kind: api.Ref, Uid: ann}))
			wantInnermost(t, got.Conds[1].E, levels, some.Op(api.MakeSet, some.Lit(api.Value{Kind: api.Ref, Uid: bob}), some.Lit(some.Num(2))))
			wantInnermost(t, p.Conds[0].E, levels, aSlot)
		}
		p := when(some.Op(api.Eq, some.Lit(some.Tower(levels, some.Text("in"))), aSlot))
		got, e := Link(p, "x", []api.Uid{ann}, []api.Uid{bob})
		if e != api.OK || got.Conds[0].E.Kids[1].V.Uid != ann {
			t.Fatal(levels, e)
		}
		v := got.Conds[0].E.Kids[0].V
		for range levels - 1 {
			if len(v.Items) != 1 {
				t.Fatal(levels, len(v.Items))
			}
			v = v.Items[0]
		}
		if !some.Equal(v, some.Text("in")) {
			t.Fatal(levels, v)
		}
	}
}

// wantInnermost asks for the innermost one of a chain.
func wantInnermost(t *testing.T, e api.Expr, levels int, want api.Expr) {
	t.Helper()
	for range levels - 1 {
		if len(e.Kids) == 0 {
			t.Fatal(levels, e.Op)
		}
		e = e.Kids[len(e.Kids)-1]
	}
	if !some.EqualExpr(e, want) {
		t.Fatal(levels, e.Op, len(e.Kids))
	}
}

// cells are where the lists of a policy, and what there is room for behind them, lie.
func cells(p api.Policy) map[any]int {
	all := map[any]int{}
	for _, c := range []api.Scope{p.Principal, p.Action, p.Resource} {
		lie(all, c.List)
	}
	lie(all, p.Conds)
	for _, c := range p.Conds {
		exprCells(all, c.E)
	}
	return all
}

func lie[T any](all map[any]int, l []T) {
	for i := range l[:cap(l)] {
		all[&l[:cap(l)][i]]++
	}
}

func exprCells(all map[any]int, e api.Expr) {
	valueCells(all, e.V)
	lie(all, e.Names)
	lie(all, e.Kids)
	for _, kid := range e.Kids {
		exprCells(all, kid)
	}
}

func valueCells(all map[any]int, v api.Value) {
	lie(all, v.Names)
	lie(all, v.Items)
	for _, item := range v.Items {
		valueCells(all, item)
	}
}

// wantApart holds that nothing lies at one place twice, in an answer and in what else there is.
func wantApart(t *testing.T, answer api.Policy, others ...api.Policy) {
	t.Helper()
	all := cells(answer)
	for cell, count := range all {
		if count > 1 {
			t.Fatalf("%T, %d times in %+v", cell, count, answer)
		}
	}
	for _, p := range others {
		for cell := range cells(p) {
			if all[cell] > 0 {
				t.Fatalf("%T, in %+v and %+v", cell, answer, p)
			}
		}
	}
}

// TestP15_1NewMemory spoils what is answered, and then what was handed in: neither changes the other one.
func TestP15_1NewMemory(t *testing.T) {
	m := &maker{362436069}
	linked := 0
	for range 5000 {
		p := m.policy()
		principal, resource := m.names(p.Principal), m.names(p.Resource)
		before, want := laidOut(p), laidOut(api.Policy{})
		got, e := Link(p, "x", principal, resource)
		if e == api.OK {
			linked++
			want = laidOut(got)
		}
		again, _ := Link(p, "x", principal, resource)
		wantApart(t, got, p, again)
		some.SpoilPolicies([]api.Policy{again})
		if !maps.Equal(laidOut(p), before) || !maps.Equal(laidOut(got), want) {
			t.Fatal(p, got)
		}
		some.SpoilPolicies([]api.Policy{p})
		some.SpoilUids(principal)
		some.SpoilUids(resource)
		if !maps.Equal(laidOut(got), want) {
			t.Fatal(got)
		}
	}
	if linked < 2000 {
		t.Error(linked)
	}
}

// TestP15_1Shared has one list at several places: in the answer each place has its own.
func TestP15_1Shared(t *testing.T) {
	list := some.Uids("A/a B/b C/c D/d")
	names := []string{"principal", "b", "c"}
	items := []api.Value{some.Set(some.Num(1)), some.Num(2)}
	v := api.Value{Kind: api.Record, Names: names[:2], Items: items}
	inner := []api.Expr{aSlot, some.Lit(v), {Op: api.MakeRecord, V: v, Names: names, Kids: []api.Expr{rSlot}}}
	kids := []api.Expr{{Op: api.MakeSet, Kids: inner}, {Op: api.MakeSet, Kids: inner[:2]}, {Op: api.MakeSet, Kids: inner}, aSlot, rSlot}
	conds := []api.Cond{{E: api.Expr{Op: api.MakeSet, Kids: kids[:4]}}, {When: true, E: api.Expr{Op: api.MakeSet, Kids: kids}}, {E: kids[0]}, {E: aSlot}}
	scope := api.Scope{Kind: api.Within, Slot: true, List: list[:2]}
	p := api.Policy{Principal: scope, Action: api.Scope{Kind: api.OneOf, List: list[:3]}, Resource: scope, Conds: conds[:3]}
	before := some.ClonePolicies([]api.Policy{p})
	got, e := Link(p, "x", list[:1], list[:1])
	if e != api.OK {
		t.Fatal(e)
	}
	wantApart(t, got, p, api.Policy{Principal: api.Scope{List: list}})
	want, _ := told(p, "x", list[:1], list[:1])
	if !maps.Equal(laidOut(got), want) {
		t.Fatal(got)
	}
	some.SpoilPolicies([]api.Policy{got})
	if !some.EqualPolicies([]api.Policy{p}, before) || !slices.Equal(list, some.Uids("A/a B/b C/c D/d")) || !some.EqualExpr(kids[4], rSlot) || !some.EqualExpr(conds[3].E, aSlot) || names[2] != "c" {
		t.Error(p, list, kids, conds, names)
	}
}

// TestP15_1Empty has empty lists where others are nil.
func TestP15_1Empty(t *testing.T) {
	bare := api.Policy{Principal: api.Scope{Slot: true}, Conds: []api.Cond{{E: api.Expr{Op: api.MakeSet}}}}
	full := some.ClonePolicies([]api.Policy{bare})[0]
	full.Principal.List, full.Action.List, full.Resource.List = []api.Uid{}, []api.Uid{}, []api.Uid{}
	full.Conds[0].E = api.Expr{Op: api.MakeSet, V: api.Value{Names: []string{}, Items: []api.Value{}}, Kids: []api.Expr{}, Names: []string{}}
	want := bare
	want.Id, want.Principal = "x", api.Scope{Uid: ann}
	for _, p := range []api.Policy{bare, full} {
		wantPolicy(t, p, "x", []api.Uid{ann}, nil, want)
		wantPolicy(t, p, "x", []api.Uid{ann}, []api.Uid{}, want)
		wantError(t, p, "x", []api.Uid{}, nil, api.ErrSlot)
		wantError(t, p, "x", nil, []api.Uid{}, api.ErrSlot)
	}
	for _, p := range []api.Policy{{Principal: api.Scope{Slot: true}}, {Principal: api.Scope{Slot: true}, Conds: []api.Cond{}}} {
		wantPolicy(t, p, "", []api.Uid{{}}, nil, api.Policy{})
	}
}

// TestP15_2 has all that was linked: it is no template, and can't be linked once more.
func TestP15_2(t *testing.T) {
	m := &maker{521288629}
	linked := 0
	for range 10000 {
		p := m.policy()
		got, e := Link(p, m.name(), m.names(p.Principal), m.names(p.Resource))
		if Template(got) {
			t.Fatal(p, got)
		}
		if a, b := policy.Slots(got); a || b {
			t.Fatal(p, got)
		}
		if e == api.OK {
			linked++
			for _, names := range [][2][]api.Uid{{nil, nil}, {{ann}, nil}, {nil, {ann}}, {{ann}, {ann}}} {
				wantError(t, got, "y", names[0], names[1], api.ErrSlot)
			}
		}
	}
	if linked < 4000 {
		t.Error(linked)
	}
}

// TestP15_2Whole reads templates of texts: what is linked of them has no slot at all, takes entities, and is read back as it is told.
func TestP15_2Whole(t *testing.T) {
	store, e := family.Load(append(some.Entities("User/a A/g", "A/g"), some.Entity("A::B/b\"", "A/g")))
	if e != api.OK {
		t.Fatal(e)
	}
	request := api.Request{Principal: ann, Action: some.Uid("Action/a"), Resource: bob, Context: some.Record("")}
	for _, scope := range []string{"==", "in", "is User in", "is A::B in"} {
		for _, cond := range []string{"?principal == principal", "resource in ?resource", "?principal == User::\"a\" && [?resource].contains(resource)", "if ?principal == ?principal then ?resource is A::B else false"} {
			text := "forbid(principal " + scope + " ?principal, action, resource " + scope + " ?resource) when { " + cond + " } unless { false && ?principal };"
			p, e := Link(parsed(t, text), "x", []api.Uid{ann}, []api.Uid{bob})
			if e != api.OK {
				t.Fatal(text, e)
			}
			for of, c := range map[api.Uid]api.Scope{ann: p.Principal, bob: p.Resource} {
				is := strings.TrimPrefix(scope, "is ")
				want := !strings.HasPrefix(scope, "is ") || strings.HasPrefix(is, of.Type+" ")
				if takes, e := eval.Holds(c, of, store); takes != want || e != api.OK {
					t.Error(text, c, takes, e)
				}
			}
			if v, e := eval.Eval(p.Conds[0].E, request, store); !some.Equal(v, some.Truth(true)) || e != api.OK {
				t.Error(text, v, e)
			}
			shown, e := printer.Policies([]api.Policy{p})
			if e != api.OK || strings.Contains(shown, "?") || !some.EqualPolicies([]api.Policy{parsed(t, shown)}, []api.Policy{p}) {
				t.Error(text, shown, e)
			}
		}
	}
}

// TestRulesEnds has conditions within themselves, and others that have no end that is ever come to.
func TestRulesEnds(t *testing.T) {
	for op := -1; op < 26; op++ {
		for count := 1; count < 4; count++ {
			for place := range count {
				ring := slices.Repeat([]api.Expr{aSlot}, count)
				ring[place] = api.Expr{Op: op, Name: strconv.Itoa(count), Kids: ring}
				if got, e := Link(when(ring[place]), "x", []api.Uid{ann}, []api.Uid{bob}); e != api.ErrDeep || len(got.Conds) > 0 {
					t.Fatal(op, count, place, e)
				}
				if _, e := Link(when(ring[place]), "x", nil, nil); e != api.ErrSlot {
					t.Fatal(op, count, place, e)
				}
				all := make([]api.Expr, count)
				for i := range all {
					all[i] = api.Expr{Op: op, Kids: all}
				}
				Link(when(all[place]), "x", []api.Uid{ann}, []api.Uid{bob})
				items := slices.Repeat([]api.Value{some.Num(1)}, count)
				items[place] = api.Value{Kind: op, Items: items}
				Link(when(api.Expr{Op: op, V: items[place]}), "x", []api.Uid{ann}, []api.Uid{bob})
			}
		}
	}
	Template(api.Policy{})
}
