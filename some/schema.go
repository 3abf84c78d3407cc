package some

import (
	"slices"
	"strings"

	"chamberlain/api"
)

// Schema has types and actions without attributes, each one told as "type name in in .." or as "action id in >principal <resource ..".
func Schema(told ...string) api.Schema {
	var s api.Schema
	for _, one := range told {
		switch words := strings.Fields(one); words[0] {
		case "type":
			s.Types = append(s.Types, api.EntityType{Name: words[1], In: words[2:]})
		case "action":
			s.Actions = append(s.Actions, action(words[1:]))
		}
	}
	return s
}

func action(words []string) api.ActionType {
	a := api.ActionType{Id: words[0]}
	for _, word := range words[1:] {
		switch word[0] {
		case '>':
			a.Principals = append(a.Principals, word[1:])
		case '<':
			a.Resources = append(a.Resources, word[1:])
		default:
			a.In = append(a.In, word)
		}
	}
	return a
}

// PlainSchema is one with something of all that there may be, several times.
func PlainSchema() api.Schema {
	s := Schema("type User Group User", "type Group Group Org", "type Org", "type A::B::Doc_1 Org Org Group",
		"action view all read >User >Group <A::B::Doc_1", "action read all", "action all", "action edit all view >User >User <A::B::Doc_1 <User <Org")
	s.Types[0].Attrs = Attrs("a b? c", Type(api.TInt), TRef("A::B::Doc_1"), TSet(TRef("User")))
	s.Types[3].Attrs = Attrs("owner", TRecord("at by?", Type(api.TText), TRef("Org")))
	s.Actions[0].Context = Attrs("a", Type(api.TBool))
	s.Actions[3].Context = Attrs("a? b", TRef("Group"), TSet(TSet(Type(api.TText))))
	return s
}

// EqualSchema tells whether two schemas are alike, one by one, in all fields; nil and empty lists are.
func EqualSchema(a, b api.Schema) bool {
	return slices.EqualFunc(a.Types, b.Types, EqualEntityType) && slices.EqualFunc(a.Actions, b.Actions, EqualActionType)
}

// EqualEntityType tells whether two types of entities are alike in all fields; nil and empty lists are.
func EqualEntityType(a, b api.EntityType) bool {
	return a.Name == b.Name && slices.Equal(a.In, b.In) && slices.EqualFunc(a.Attrs, b.Attrs, EqualAttr)
}

// EqualActionType tells whether two actions are alike in all fields; nil and empty lists are.
func EqualActionType(a, b api.ActionType) bool {
	return a.Id == b.Id && slices.Equal(a.In, b.In) && slices.Equal(a.Principals, b.Principals) && slices.Equal(a.Resources, b.Resources) && slices.EqualFunc(a.Context, b.Context, EqualAttr)
}

// CloneSchema is the same schema in other memory, to the last field.
func CloneSchema(s api.Schema) api.Schema {
	s.Types, s.Actions = slices.Clone(s.Types), slices.Clone(s.Actions)
	for i, t := range s.Types {
		s.Types[i].In, s.Types[i].Attrs = slices.Clone(t.In), cloneAttrs(t.Attrs)
	}
	for i, a := range s.Actions {
		s.Actions[i] = api.ActionType{Id: a.Id, In: slices.Clone(a.In), Principals: slices.Clone(a.Principals), Resources: slices.Clone(a.Resources), Context: cloneAttrs(a.Context)}
	}
	return s
}

func cloneAttrs(l []api.Attr) []api.Attr { return CloneType(api.Type{Attrs: l}).Attrs }
