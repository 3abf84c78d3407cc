package policy

import (
	"math/rand"
	"slices"
	"strconv"
	"strings"

	"chamberlain/api"
	"chamberlain/expr"
	"chamberlain/lex"
)

// table is the document's grammar, written as a table: behind a state's name, of each thing that may stand next, it and the state behind it. Words stand for themselves; kinds of words and rules of chapter 8 are in capitals.
const table = `
policies    @ annotation  permit opens  forbid opens  END -
annotation  id idOpens
idOpens     ( idText
idText      QUOTED idCloses
idCloses    ) effect
effect      permit opens  forbid opens
opens       ( principal
principal   principal ofPrincipal
ofPrincipal == place1  in place1  is path1  , action
path1       PATH behindPath1
behindPath1 in place1  , action
place1      SLOT behind1  UID behind1
behind1     , action
action      action ofAction
ofAction    == one  in within  , resource
one         UID behindOne
behindOne   , resource
within      [ first  UID behindOne
first       ] behindOne  UID listed
listed      , another  ] behindOne
another     UID listed
resource    resource ofResource
ofResource  == place2  in place2  is path2  ) condition
path2       PATH behindPath2
behindPath2 in place2  ) condition
place2      SLOT behind2  UID behind2
behind2     ) condition
condition   when braces  unless braces  ; policies
braces      { body
body        EXPR closes
closes      } condition
`

// edge is what may stand next, and the state behind it.
type edge struct{ what, to string }

// theStates are those of the table, made once.
var theStates = states()

func states() map[string][]edge {
	all := map[string][]edge{}
	for _, line := range strings.Split(strings.TrimSpace(table), "\n") {
		told := strings.Fields(line)
		for i := 1; i < len(told); i += 2 {
			all[told[0]] = append(all[told[0]], edge{told[i], told[i+1]})
		}
	}
	return all
}

// oracle goes through words by the table, and gathers what they mean.
type oracle struct {
	words []lex.Word
	at    int
	all   []api.Policy
	first int // the number of the first word of a condition's expression
}

// scopeOf is the scope of the last policy that a state is of.
func (o *oracle) scopeOf(state string) *api.Scope {
	p := &o.all[len(o.all)-1]
	switch {
	case state == "ofPrincipal" || strings.HasSuffix(state, "1"):
		return &p.Principal
	case state == "ofResource" || strings.HasSuffix(state, "2"):
		return &p.Resource
	}
	return &p.Action
}

// fits tells whether what may stand next does, as far as the next word tells.
func (o *oracle) fits(what string) bool {
	w := o.words[o.at]
	switch what {
	case "END":
		return w.Kind == lex.End
	case "QUOTED":
		return w.Kind == lex.Quoted
	case "SLOT":
		return w.Kind == lex.Slot
	case "UID", "PATH", "EXPR":
		return true
	}
	return w.Text == what && (w.Kind == lex.Name || w.Kind == lex.Mark)
}

// step goes one step from a state on, and tells the state behind it; or the error, and where.
func (o *oracle) step(state string) (string, api.Errno, int) {
	if state == "policies" && o.words[o.at].Kind != lex.End {
		o.all = append(o.all, api.Policy{Id: "policy" + strconv.Itoa(len(o.all))})
	}
	for _, e := range theStates[state] {
		if !o.fits(e.what) {
			continue
		}
		var err api.Errno
		var at int
		switch e.what {
		case "UID":
			err, at = o.uid(state)
		case "PATH":
			err, at = o.path(state)
		case "EXPR":
			err, at = o.expr()
		default:
			err, at = o.word(state, o.words[o.at])
			o.at++
		}
		return e.to, err, at
	}
	return "", api.ErrForm, o.words[o.at].At
}

func (o *oracle) uid(state string) (api.Errno, int) {
	u, next, e, at := expr.Uid(o.words, o.at)
	o.at = next
	s := o.scopeOf(state)
	s.Uid = u
	switch state {
	case "first", "listed", "another":
		s.Uid = api.Uid{}
		s.List = append(s.List, u)
	case "within":
		s.Kind = api.Within
	}
	return e, at
}

func (o *oracle) path(state string) (api.Errno, int) {
	w := o.words[o.at]
	if w.Kind != lex.Name || slices.Contains(strings.Fields("if then else true false in has is"), w.Text) {
		return api.ErrForm, w.At
	}
	s := o.scopeOf(state)
	s.Type = w.Text
	for o.at++; o.fits("::") && o.words[o.at+1].Kind == lex.Name; o.at += 2 {
		s.Type += "::" + o.words[o.at+1].Text
	}
	return api.OK, 0
}

func (o *oracle) expr() (api.Errno, int) {
	x, next, e, at := expr.Read(o.words, o.at)
	o.first, o.at = o.at, next
	conds := o.all[len(o.all)-1].Conds
	conds[len(conds)-1].E = x
	return e, at
}

// word takes what a word means, in a state.
func (o *oracle) word(state string, w lex.Word) (api.Errno, int) {
	if state == "policies" && w.Kind == lex.End {
		return api.OK, 0
	}
	p := &o.all[len(o.all)-1]
	switch {
	case w.Text == "permit":
		p.Permit = true
	case state == "idText":
		p.Id = w.Text
	case state == "condition" && w.Text != ";":
		p.Conds = append(p.Conds, api.Cond{When: w.Text == "when"})
	case state == "closes":
		return o.closed(p)
	case w.Kind == lex.Slot:
		o.scopeOf(state).Slot = true
		if w.Text != map[string]string{"place1": "principal", "place2": "resource"}[state] {
			return api.ErrSlot, w.At
		}
	case strings.HasPrefix(state, "of"):
		kinds := map[string]int{"==": api.Equal, "in": api.Within, "is": api.OfType}
		o.scopeOf(state).Kind = kinds[w.Text]
	case strings.HasPrefix(state, "behindPath") && w.Text == "in":
		o.scopeOf(state).Kind = api.Both
	case state == "within":
		p.Action.Kind = api.OneOf
	}
	return api.OK, 0
}

// closed asks of the last condition what is asked once it is closed.
func (o *oracle) closed(p *api.Policy) (api.Errno, int) {
	x := p.Conds[len(p.Conds)-1].E
	names, depth := slotsOf(x)
	at := o.words[o.first].At
	switch {
	case depth > 50:
		return api.ErrDeep, at
	case slices.Contains(names, "principal") && !p.Principal.Slot, slices.Contains(names, "resource") && !p.Resource.Slot:
		return api.ErrSlot, at
	}
	return api.OK, 0
}

// slotsOf are the names of an expression's slots, level by level, and how many levels there are.
func slotsOf(e api.Expr) ([]string, int) {
	var names []string
	depth := 0
	for level := []api.Expr{e}; len(level) > 0; depth++ {
		var next []api.Expr
		for _, x := range level {
			if x.Op == api.Slot {
				names = append(names, x.Name)
			}
			next = append(next, x.Kids...)
		}
		level = next
	}
	return names, depth
}

// told is what Parse answers, by the oracle.
func told(text string) ([]api.Policy, api.Errno, int) {
	words, e, at := lex.Words(text)
	if e != api.OK {
		return nil, e, at
	}
	o := oracle{words: words}
	for state := "policies"; state != "-"; {
		state, e, at = o.step(state)
		if e != api.OK {
			return nil, e, at
		}
	}
	for i, p := range o.all {
		for _, q := range o.all[:i] {
			if p.Id == q.Id {
				return nil, api.ErrTwice, 0
			}
		}
	}
	return o.all, api.OK, 0
}

// maker makes texts by the table, by chance; most of them may be.
type maker struct{ chance *rand.Rand }

// make are the words of so many policies.
func (m maker) make(count int) []string {
	var l []string
	for state := "policies"; state != "-"; {
		edges := theStates[state]
		if state == "policies" {
			if count == 0 {
				return l
			}
			count--
			edges = edges[:3]
		}
		e := edges[m.chance.Intn(len(edges))]
		l = append(l, m.words(state, e.what)...)
		state = e.to
	}
	return l
}

// words are those of a thing that may stand next in a state.
func (m maker) words(state, what string) []string {
	switch what {
	case "SLOT":
		if m.chance.Intn(20) == 0 {
			return m.pick("?principal", "?resource", "?action")
		}
		return []string{map[string]string{"place1": "?principal", "place2": "?resource"}[state]}
	case "QUOTED":
		return m.pick(`""`, `"a"`, `"policy1"`, `"b c"`, `"\x0a"`, strconv.Quote(strconv.Itoa(m.chance.Intn(1000))))
	case "UID":
		return m.pick(`A :: "a"`, `A::B :: ""`, `principal::"permit"`, `when :: in ::"b"`)
	case "PATH":
		return m.pick("A", "A :: B", "permit::in :: is", "principal")
	case "EXPR":
		return m.pick("true", "principal == resource", "context.a && !false", `{ a : [ 1 , 2 ] , "b" : { } }`, "principal is A :: B", "if true then 1 else 2", `action in [ A::"a" , A::"b" ]`,
			"principal in ?principal", "resource == ?resource", "[ ?principal , ?resource ]", "true || ! ( context.contains( ?resource ) )", "1"+strings.Repeat(" + 1", 47+m.chance.Intn(5)), strings.Repeat("( ", 25)+"1")
	}
	return []string{what}
}

// pick are the words of one of some things, the last of which are taken less often.
func (m maker) pick(things ...string) []string {
	return strings.Fields(things[min(m.chance.Intn(len(things)), m.chance.Intn(len(things)))])
}
