package expr

import (
	"math"
	"math/rand"
	"regexp"
	"slices"
	"strings"

	"chamberlain/api"
	"chamberlain/lex"
)

// grammar is as the document writes it. The oracle goes by it.
const grammar = `
expr    = "if" expr "then" expr "else" expr | or
or      = and ("||" and)*
and     = rel ("&&" rel)*
rel     = sum [("==" | "!=" | "<" | "<=" | ">" | ">=" | "in") sum | "has" NAME | "is" path]
sum     = product (("+" | "-") product)*
product = unary ("*" unary)*
unary   = "!" unary | "-" unary | member
member  = primary ("." NAME ["(" expr ")"] | "[" QUOTED "]")*
primary = "true" | "false" | NUMBER | QUOTED | SLOT | uid | variable
        | "(" expr ")" | "[" [expr ("," expr)*] "]" | "{" [field ("," field)*] "}"
field   = (NAME | QUOTED) ":" expr
uid     = path "::" QUOTED
path    = NAME ("::" NAME)*
variable = "principal" | "action" | "resource" | "context"
`

var (
	ruleForm = regexp.MustCompile(`(?m)^(\w+)\s*= `)
	itemForm = regexp.MustCompile(`"[^"]+"|\w+|[][()|*]`)
	methods  = []string{"contains", "containsAll", "containsAny"}
	notFirst = strings.Fields("if then else true false in has is")
)

// item is a part of a rule: a word that stands for itself, a kind of words, a rule's name, or a row of items, one of several, any number of one, or one that may be left out.
type item struct {
	what  string // "word", "kind", "rule", "row", "either", "often", "maybe"
	text  string
	parts []item
}

// theRules are those of the grammar, made once.
var theRules = rules()

// rules are those of the grammar.
func rules() map[string]item {
	all := map[string]item{}
	places := append(ruleForm.FindAllStringSubmatchIndex(grammar, -1), []int{len(grammar)})
	for i, at := range places[:len(places)-1] {
		told := itemForm.FindAllString(grammar[at[1]:places[i+1][0]], -1)
		all[grammar[at[2]:at[3]]] = either(&told)
	}
	return all
}

// either takes rows with "|" between them off what is told.
func either(told *[]string) item {
	all := item{what: "either", parts: []item{row(told)}}
	for len(*told) > 0 && (*told)[0] == "|" {
		*told = (*told)[1:]
		all.parts = append(all.parts, row(told))
	}
	return all
}

// row takes items one behind the other off what is told.
func row(told *[]string) item {
	all := item{what: "row"}
	for len(*told) > 0 && !strings.Contains("|)]", (*told)[0]) {
		all.parts = append(all.parts, one(told))
	}
	return all
}

// one takes one item off what is told.
func one(told *[]string) item {
	first := (*told)[0]
	*told = (*told)[1:]
	var it item
	switch {
	case first == "(" || first == "[":
		it = either(told)
		*told = (*told)[1:]
		if first == "[" {
			it = item{what: "maybe", parts: []item{it}}
		}
	case first[0] == '"':
		it = item{what: "word", text: strings.Trim(first, `"`)}
	case first == strings.ToUpper(first):
		it = item{what: "kind", text: first}
	default:
		it = item{what: "rule", text: first}
	}
	if len(*told) > 0 && (*told)[0] == "*" {
		*told = (*told)[1:]
		it = item{what: "often", parts: []item{it}}
	}
	return it
}

// tree is what is read: by a rule, or one word.
type tree struct {
	rule string // "": a word
	word lex.Word
	kids []tree
}

// found is one way in which an item can be read: the trees of it, and which word is behind it.
type found struct {
	end   int
	trees []tree
}

// within tells by which rule something is read, from which word on, and how deep that is.
type within struct {
	rule string
	from int
	deep int
}

// oracle finds all ways of reading words by the grammar.
type oracle struct {
	rules map[string]item
	words []lex.Word
	far   int // the furthest word that was asked for and couldn't stand
	deep  int // the furthest word at which a reading was too deep
}

func (o *oracle) word(at int) lex.Word {
	switch count := len(o.words); {
	case at >= 0 && at < count:
		return o.words[at]
	case count > 0:
		return lex.Word{At: o.words[count-1].At}
	}
	return lex.Word{}
}

func (o *oracle) mark(at int, text string) bool {
	return o.word(at).Kind == lex.Mark && o.word(at).Text == text
}

// fits tells whether a word can stand where an item asks for one, by the grammar and by what is said below it.
func (o *oracle) fits(it item, in within, at int) bool {
	w := o.word(at)
	if it.what == "word" && (w.Text != it.text || w.Kind != lex.Mark && w.Kind != lex.Name) {
		return false
	}
	kinds := map[string]int{"NAME": lex.Name, "NUMBER": lex.Number, "QUOTED": lex.Quoted, "SLOT": lex.Slot}
	if it.what == "kind" && w.Kind != kinds[it.text] {
		return false
	}
	switch {
	case in.rule == "path" && at == in.from:
		return !slices.Contains(notFirst, w.Text)
	case in.rule == "path" && it.text == "::":
		return o.word(at+1).Kind == lex.Name
	case in.rule == "variable":
		return !o.mark(at+1, "::")
	case in.rule == "member" && it.text == "(":
		return slices.Contains(methods, o.word(at-1).Text)
	case it.text == "SLOT":
		return w.Text == "principal" || w.Text == "resource"
	}
	return true
}

// find are all ways of reading an item from a word on.
func (o *oracle) find(it item, in within, at int) []found {
	switch it.what {
	case "rule":
		if it.text == "uid" && in.rule == "primary" && !o.mark(at+1, "::") {
			return nil
		}
		return o.findRule(it.text, in.deep, at)
	case "row":
		return o.findRow(it.parts, in, at)
	case "either":
		var all []found
		for _, part := range it.parts {
			all = append(all, o.find(part, in, at)...)
		}
		return all
	case "maybe":
		there := o.find(it.parts[0], in, at)
		if in.rule == "member" && o.mark(at, "(") { // it tells at once that an expression in parentheses must be here
			return there
		}
		return append(there, found{end: at})
	case "often":
		all := []found{{end: at}}
		for i := 0; i < len(all); i++ {
			all = append(all, behind(all[i], o.find(it.parts[0], in, all[i].end))...)
		}
		return all
	}
	if !o.fits(it, in, at) {
		o.far = max(o.far, at)
		return nil
	}
	return []found{{at + 1, []tree{{word: o.word(at)}}}}
}

func (o *oracle) findRow(parts []item, in within, at int) []found {
	all := []found{{end: at}}
	for _, part := range parts {
		var longer []found
		for _, f := range all {
			longer = append(longer, behind(f, o.find(part, in, f.end))...)
		}
		all = longer
	}
	return all
}

func (o *oracle) findRule(name string, deep, at int) []found {
	if name == "expr" || name == "unary" {
		deep++
	}
	if deep > 50 {
		o.deep = max(o.deep, at)
		return nil
	}
	all := o.find(o.rules[name], within{name, at, deep}, at)
	for i, f := range all {
		all[i].trees = []tree{{rule: name, kids: f.trees}}
	}
	return all
}

// behind are ways with another one ahead of each.
func behind(ahead found, all []found) []found {
	var longer []found
	for _, f := range all {
		longer = append(longer, found{f.end, append(slices.Clone(ahead.trees), f.trees...)})
	}
	return longer
}

// toldTree is the tree of a rule from a word on, and which word is behind it; or the error, and where: the longest row of words with which the rule can begin is one whole, or the word behind it can't stand.
func toldTree(rule string, words []lex.Word, from int) (tree, int, api.Errno, int) {
	o := oracle{rules: theRules, words: words, far: math.MinInt, deep: math.MinInt}
	all := o.find(item{what: "rule", text: rule}, within{}, from)
	furthest := max(o.far, o.deep)
	for _, f := range all {
		furthest = max(furthest, f.end)
	}
	for _, f := range all {
		if f.end == furthest {
			return f.trees[0], f.end, api.OK, 0
		}
	}
	if furthest == o.deep {
		return tree{}, 0, api.ErrDeep, o.word(furthest).At
	}
	return tree{}, 0, api.ErrForm, o.word(furthest).At
}

// toldRead is what Read answers, by the oracle.
func toldRead(words []lex.Word, from int) (api.Expr, int, api.Errno, int) {
	t, next, e, at := toldTree("expr", words, from)
	if e != api.OK {
		return api.Expr{}, 0, e, at
	}
	return meaning(t), next, api.OK, 0
}

// toldUid is what Uid answers, by the oracle.
func toldUid(words []lex.Word, from int) (api.Uid, int, api.Errno, int) {
	t, next, e, at := toldTree("uid", words, from)
	if e != api.OK {
		return api.Uid{}, 0, e, at
	}
	return meaning(t).V.Uid, next, api.OK, 0
}

// toldParse is what Parse answers, by the oracle.
func toldParse(text string) (api.Expr, api.Errno, int) {
	words, e, at := lex.Words(text)
	if e != api.OK {
		return api.Expr{}, e, at
	}
	x, next, e, at := toldRead(words, 0)
	switch {
	case e != api.OK:
		return api.Expr{}, e, at
	case words[next].Kind != lex.End:
		return api.Expr{}, api.ErrForm, words[next].At
	case levels(x) > 50:
		return api.Expr{}, api.ErrDeep, 0
	}
	return x, api.OK, 0
}

// levels counts how many levels of Kids there are.
func levels(e api.Expr) int {
	count := 0
	for level := []api.Expr{e}; len(level) > 0; count++ {
		var next []api.Expr
		for _, x := range level {
			next = append(next, x.Kids...)
		}
		level = next
	}
	return count
}

// meaning is what a tree means.
func meaning(t tree) api.Expr {
	first := t.kids[0]
	switch t.rule {
	case "expr":
		if first.rule == "" {
			return both(api.If, meaning(t.kids[1]), meaning(t.kids[3]), meaning(t.kids[5]))
		}
	case "or", "and", "sum", "product":
		ops := map[string]int{"||": api.Or, "&&": api.And, "+": api.Add, "-": api.Sub, "*": api.Mul}
		left := meaning(first)
		for i := 1; i < len(t.kids); i += 2 {
			left = both(ops[t.kids[i].word.Text], left, meaning(t.kids[i+1]))
		}
		return left
	case "rel":
		return meaningOfRel(t)
	case "unary":
		if first.rule == "" {
			return both(map[string]int{"!": api.Not, "-": api.Neg}[first.word.Text], meaning(t.kids[1]))
		}
	case "member":
		return meaningOfMember(t)
	case "primary":
		return meaningOfPrimary(t)
	case "uid":
		return api.Expr{Op: api.Lit, V: api.Value{Kind: api.Ref, Uid: api.Uid{Type: bytesOf(first), Id: t.kids[2].word.Text}}}
	case "variable":
		return api.Expr{Op: api.Var, Name: first.word.Text}
	}
	return meaning(first)
}

func meaningOfRel(t tree) api.Expr {
	left := meaning(t.kids[0])
	if len(t.kids) == 1 {
		return left
	}
	switch t.kids[1].word.Text {
	case "has":
		return api.Expr{Op: api.Has, Name: t.kids[2].word.Text, Kids: []api.Expr{left}}
	case "is":
		return api.Expr{Op: api.Is, Name: bytesOf(t.kids[2]), Kids: []api.Expr{left}}
	}
	right := meaning(t.kids[2])
	return map[string]api.Expr{
		"==": both(api.Eq, left, right),
		"!=": both(api.Not, both(api.Eq, left, right)),
		"<":  both(api.Less, left, right),
		"<=": both(api.LessEq, left, right),
		">":  both(api.Less, right, left),
		">=": both(api.LessEq, right, left),
		"in": both(api.In, left, right),
	}[t.kids[1].word.Text]
}

func meaningOfMember(t tree) api.Expr {
	e := meaning(t.kids[0])
	for rest := t.kids[1:]; len(rest) > 0; {
		name, count := rest[1].word.Text, 2
		switch {
		case rest[0].word.Text == "[":
			e, count = api.Expr{Op: api.Get, Name: name, Kids: []api.Expr{e}}, 3
		case len(rest) > 2 && rest[2].word.Text == "(":
			e, count = both([]int{api.Contains, api.ContainsAll, api.ContainsAny}[slices.Index(methods, name)], e, meaning(rest[3])), 5
		default:
			e = api.Expr{Op: api.Get, Name: name, Kids: []api.Expr{e}}
		}
		rest = rest[count:]
	}
	return e
}

func meaningOfPrimary(t tree) api.Expr {
	first := t.kids[0]
	if first.rule != "" {
		return meaning(first)
	}
	w := first.word
	switch w.Kind {
	case lex.Number:
		return api.Expr{Op: api.Lit, V: api.Value{Kind: api.Int, Int: w.Int}}
	case lex.Quoted:
		return api.Expr{Op: api.Lit, V: api.Value{Kind: api.Text, Text: w.Text}}
	case lex.Slot:
		return api.Expr{Op: api.Slot, Name: w.Text}
	case lex.Name:
		return api.Expr{Op: api.Lit, V: api.Value{Kind: api.Bool, Bool: w.Text == "true"}}
	}
	if w.Text == "(" {
		return meaning(t.kids[1])
	}
	e := api.Expr{Op: map[string]int{"[": api.MakeSet, "{": api.MakeRecord}[w.Text]}
	for _, kid := range t.kids[1:] {
		switch kid.rule {
		case "expr":
			e.Kids = append(e.Kids, meaning(kid))
		case "field":
			e.Names = append(e.Names, kid.kids[0].word.Text)
			e.Kids = append(e.Kids, meaning(kid.kids[2]))
		}
	}
	return e
}

// bytesOf are those of a tree's words.
func bytesOf(t tree) string {
	all := t.word.Text
	for _, kid := range t.kids {
		all += bytesOf(kid)
	}
	return all
}

func both(op int, kids ...api.Expr) api.Expr { return api.Expr{Op: op, Kids: kids} }

// maker makes texts by the grammar, by chance; most of them may be.
type maker struct {
	rules  map[string]item
	chance *rand.Rand
}

// makeAll are so many rows of words' texts, the same ones each time.
func makeAll(count int) [][]string {
	m := maker{theRules, rand.New(rand.NewSource(8))}
	var all [][]string
	for i := range count {
		all = append(all, m.make(item{what: "rule", text: "expr"}, "", i%7))
	}
	return all
}

func (m maker) pick(told string) []string {
	l := strings.Fields(told)
	return []string{l[m.chance.Intn(len(l))]}
}

// make are words of an item of a rule, that goes no deeper than so many levels.
func (m maker) make(it item, rule string, deep int) []string {
	var l []string
	switch it.what {
	case "rule":
		if it.text == "expr" || it.text == "unary" {
			deep--
		}
		return m.make(m.rules[it.text], it.text, deep)
	case "row":
		for _, part := range it.parts {
			l = append(l, m.make(part, rule, deep)...)
		}
	case "either":
		for {
			if part := it.parts[m.chance.Intn(len(it.parts))]; deep > 0 || len(it.parts) == 1 || !deeper(part) {
				return m.make(part, rule, deep)
			}
		}
	case "maybe", "often":
		for m.chance.Intn(4) == 0 && (deep > 0 || !deeper(it.parts[0])) {
			l = append(l, m.make(it.parts[0], rule, deep)...)
			if it.what == "maybe" {
				break
			}
		}
	case "word":
		return []string{it.text}
	default:
		return m.makeWord(it.text, rule)
	}
	return l
}

func (m maker) makeWord(kind, rule string) []string {
	switch kind {
	case "NUMBER":
		return m.pick("0 1 7 10 9223372036854775807")
	case "QUOTED":
		return m.pick(`"" "a" "\"" "if" "(" "\x0a"`)
	case "SLOT":
		return m.pick("?principal ?resource")
	}
	if rule == "path" {
		return m.pick("A B principal context contains a_1")
	}
	return m.pick("contains containsAll containsAny contains if in true a principal")
}

// deeper tells whether an item has a rule by which what is made would go deeper.
func deeper(it item) bool {
	if it.what == "rule" {
		return it.text == "expr" || it.text == "field" || it.text == "unary"
	}
	return slices.ContainsFunc(it.parts, deeper)
}
