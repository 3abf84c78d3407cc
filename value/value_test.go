package value

import (
	"encoding/binary"
	"fmt"
	"maps"
	"math"
	"reflect"
	"slices"
	"strings"
	"testing"

	"chamberlain/api"
	"chamberlain/some"
)

// all has all fields, whatever its kind.
func all(kind int, n int64, s string, l ...api.Value) api.Value {
	return api.Value{Kind: kind, Bool: n > 1, Int: n, Text: s, Uid: api.Uid{Type: s, Id: s}, Items: l, Names: make([]string, len(l))}
}

// numbers are n numbers, the greatest first.
func numbers(n int) []api.Value {
	var l []api.Value
	for i := range n {
		l = append(l, some.Num(int64(n-i)))
	}
	return l
}

// names are n names, the last one first.
func names(n int) []string {
	var l []string
	for i := range n {
		l = append(l, fmt.Sprintf("n%06d", n-i))
	}
	return l
}

// key is a row of bytes whose order is that of values, by the document's words: an oracle.
func key(v api.Value) string {
	k := numberKey(int64(v.Kind))
	switch v.Kind {
	case api.Bool:
		k += map[bool]string{false: "0", true: "1"}[v.Bool]
	case api.Int:
		k += numberKey(v.Int)
	case api.Text:
		k += textKey(v.Text)
	case api.Ref:
		k += textKey(v.Uid.Type) + textKey(v.Uid.Id)
	case api.Set:
		k += rowKey(len(v.Items), func(i int) string { return key(v.Items[i]) })
	case api.Record:
		k += rowKey(len(v.Names), func(i int) string { return textKey(v.Names[i]) })
		k += rowKey(min(len(v.Items), len(v.Names)), func(i int) string { return key(v.Items[i]) })
	}
	return k
}

func numberKey(n int64) string {
	return string(binary.BigEndian.AppendUint64(nil, uint64(n)^1<<63))
}

func textKey(s string) string {
	return rowKey(len(s), func(i int) string { return s[i : i+1] })
}

func rowKey(n int, piece func(i int) string) string {
	k := ""
	for i := range n {
		k += "\x01" + piece(i)
	}
	return k + "\x00"
}

// canonical is Canon by the document's words, of a value without error: an oracle.
func canonical(v api.Value) api.Value {
	switch v.Kind {
	case api.Bool:
		return some.Truth(v.Bool)
	case api.Int:
		return some.Num(v.Int)
	case api.Text:
		return some.Text(v.Text)
	case api.Ref:
		return some.Ref(v.Uid.Type, v.Uid.Id)
	}
	items := map[string]api.Value{}
	for i, item := range v.Items {
		c := canonical(item)
		if v.Kind == api.Set {
			items[key(c)] = c
		} else {
			items[v.Names[i]] = c
		}
	}
	c := api.Value{Kind: v.Kind}
	for _, k := range slices.Sorted(maps.Keys(items)) {
		c.Items = append(c.Items, items[k])
		if v.Kind == api.Record {
			c.Names = append(c.Names, k)
		}
	}
	return c
}

// source makes values, the same ones each time.
type source struct{ some.Source }

// value is one of few, so that some are the same; a good one has no fault.
func (s *source) value(levels int, good bool) api.Value {
	kinds := []int{api.Bool, api.Int, api.Text, api.Ref, api.Set, api.Record, api.Set, api.Record}
	if levels == 0 {
		kinds = kinds[:4]
	}
	few := []string{"", "a", "b", "ab", "a\x00", "\xff"}
	v := all(kinds[s.Below(len(kinds))], int64(s.Below(5)-2), few[s.Below(len(few))])
	v.Bool = s.Below(2) == 1
	v.Uid.Id = few[s.Below(len(few))]
	if !good && s.Below(12) == 0 {
		v.Kind = []int{-1, 0, 7, 8}[s.Below(4)]
	}
	for range s.Below(4) {
		if levels > 0 {
			v.Items = append(v.Items, s.value(levels-1, good))
		}
		v.Names = append(v.Names, few[s.Below(len(few))])
	}
	if !good && s.Below(3) > 0 && len(v.Names) > len(v.Items) { // often as many as items
		v.Names = v.Names[:len(v.Items)]
	}
	if good {
		v.Names = few[:len(v.Items)]
		if s.Below(2) == 1 {
			v.Names = slices.Clone(v.Names)
			slices.Reverse(v.Names)
		}
	}
	return v
}

// spread are values of all kinds, some of which are the same.
func spread(n int, good bool) []api.Value {
	s := &source{88172645463325252}
	var l []api.Value
	for i := range n {
		l = append(l, s.value(1+i%3, good))
	}
	return l
}

// ladders are rows of values, each one of a row ahead of those behind it.
func ladders() map[string][]api.Value {
	return map[string][]api.Value{
		"kinds": {{Kind: math.MinInt}, {Kind: -1}, {}, some.Truth(true), some.Num(9), some.Text("z"), some.Ref("z", "z"), some.Set(some.Record("")), some.Record("z", some.Set()), {Kind: 7}, {Kind: 8}, {Kind: math.MaxInt}},
		"truth": {some.Truth(false), some.Truth(true)},
		"numbers": {some.Num(math.MinInt64), some.Num(math.MinInt64 + 1), some.Num(math.MinInt32), some.Num(-10), some.Num(-9), some.Num(-1), some.Num(0), some.Num(1), some.Num(9), some.Num(10),
			some.Num(math.MaxInt32 + 1), some.Num(math.MaxUint32 + 1), some.Num(math.MaxInt64 - 1), some.Num(math.MaxInt64)},
		"texts": {some.Text(""), some.Text("\x00"), some.Text("\x00\x00"), some.Text("\x00a"), some.Text(" "), some.Text("10"), some.Text("9"), some.Text("A"), some.Text("B"), some.Text("Z"), some.Text("a"), some.Text("a\x00"), some.Text("a "), some.Text("aA"), some.Text("aa"),
			some.Text("ab"), some.Text("b"), some.Text("z"), some.Text("{"), some.Text("\x7f"), some.Text("\x80"), some.Text("\xc3\xa9"), some.Text("\xef\xbf\xbd"), some.Text("\xf0\x9f\x98\x80"), some.Text("\xff"), some.Text("\xff\x00")},
		"refs": {some.Ref("", ""), some.Ref("", "a"), some.Ref("", "z"), some.Ref("A", "b"), some.Ref("A", "ba"), some.Ref("A", "c"), some.Ref("A::B", "a"), some.Ref("AB", "a"), some.Ref("B", ""), some.Ref("B", "A"), some.Ref("a", ""), some.Ref("a", "bc"), some.Ref("ab", ""), some.Ref("ab", "c"), some.Ref("\x80", "")},
		"sets": {some.Set(), some.Set(some.Truth(true)), some.Set(some.Num(0)), some.Set(some.Num(1)), some.Set(some.Num(1), some.Num(0)), some.Set(some.Num(1), some.Num(0), some.Num(9)), some.Set(some.Num(1), some.Num(1)), some.Set(some.Num(1), some.Num(2)), some.Set(some.Num(2)), some.Set(some.Num(2), some.Num(1)),
			some.Set(some.Num(3)), some.Set(some.Text("")), some.Set(some.Set()), some.Set(some.Set(), some.Set()), some.Set(some.Set(some.Num(1))), some.Set(some.Set(some.Num(1)), some.Num(0)), some.Set(some.Set(some.Num(1), some.Num(0))), some.Set(some.Record("")), some.Set(some.Record("a", some.Num(0)))},
		"records": {some.Record(""), some.Record("A", some.Num(9)), some.Record("a", some.Truth(true)), some.Record("a", some.Num(1)), some.Record("a", some.Num(2)), some.Record("a a", some.Num(0), some.Num(0)), some.Record("a b", some.Num(1), some.Num(9)), some.Record("a b", some.Num(2), some.Num(1)),
			some.Record("a b", some.Num(2), some.Num(2)), some.Record("a b c", some.Num(0), some.Num(0), some.Num(0)), some.Record("a c", some.Num(0), some.Num(0)), some.Record("aa", some.Num(0)), some.Record("b", some.Num(0)), some.Record("b a", some.Num(0), some.Num(0)), some.Record("\xff", some.Num(0))},
		"odd records": {some.Record("a"), some.Record("a", some.Num(0)), some.Record("a b"), some.Record("a b", some.Num(0)), some.Record("a b", some.Num(0), some.Truth(false)), some.Record("a b", some.Num(0), some.Record("")), some.Record("a b", some.Num(1)), some.Record("a b", some.Num(1), some.Num(0), some.Num(0)),
			some.Record("a b", some.Num(1), some.Num(1)), some.Record("a b c"), some.Record("a b c", some.Num(0)), some.Record("a b c", some.Num(0), some.Num(0)), some.Record("a b c", some.Num(0), some.Num(0), some.Num(0)), some.Record("a b c", some.Num(0), some.Num(1)), some.Record("b")},
		"sets of each kind": {some.Set(api.Value{}), some.Set(some.Truth(false)), some.Set(some.Truth(true)), some.Set(some.Num(-1)), some.Set(some.Num(0)), some.Set(some.Text("")), some.Set(some.Ref("", "")), some.Set(some.Set()), some.Set(some.Record("")), some.Set(api.Value{Kind: 7})},
		"nested":            {some.Set(some.Record("a", some.Set(some.Num(1)))), some.Set(some.Record("a", some.Set(some.Num(1), some.Num(1)))), some.Set(some.Record("a", some.Set(some.Num(2)))), some.Set(some.Record("b", some.Set(some.Num(0)))), some.Record("a", some.Record("a", some.Set(some.Num(1)))), some.Record("a", some.Record("a", some.Set(some.Num(2))))},
	}
}

func wantOrder(t *testing.T, a, b api.Value, want int) {
	t.Helper()
	if o := Order(a, b); o != want {
		t.Errorf("Order(%.200s, %.200s): %d; not %d", fmt.Sprint(a), fmt.Sprint(b), o, want)
	}
	if Same(a, b) != (want == 0) {
		t.Errorf("Same(%.200s, %.200s): %t", fmt.Sprint(a), fmt.Sprint(b), want != 0)
	}
}

func wantError(t *testing.T, name string, v api.Value, want api.Errno) {
	t.Helper()
	if c, e := Canon(v); e != want || !reflect.DeepEqual(c, api.Value{}) {
		t.Errorf("Canon of %s: %.200s, %d; not %d", name, fmt.Sprint(c), e, want)
	}
}

func wantCanon(t *testing.T, v, want api.Value) {
	t.Helper()
	if c, e := Canon(v); e != api.OK || !some.Equal(c, want) {
		t.Errorf("Canon(%.300s): %.300s, %d; not %.300s", fmt.Sprint(v), fmt.Sprint(c), e, fmt.Sprint(want))
	}
}

func TestP3_1Ladders(t *testing.T) {
	for name, ladder := range ladders() {
		t.Run(name, func(t *testing.T) {
			for i, a := range ladder {
				for j, b := range ladder {
					want := 0
					if i < j {
						want = -1
					} else if i > j {
						want = 1
					}
					wantOrder(t, a, some.Clone(b), want)
				}
			}
		})
	}
}

// TestP3_1OtherFields has values that differ in what their kind has not.
func TestP3_1OtherFields(t *testing.T) {
	for kind := -3; kind <= 12; kind++ {
		a, b := all(kind, 1, "a", some.Num(1)), all(kind, 2, "b", some.Num(2), some.Num(3))
		switch kind {
		case api.Bool:
			b.Bool = a.Bool
		case api.Int:
			b.Int = a.Int
		case api.Text:
			b.Text = a.Text
		case api.Ref:
			b.Uid = a.Uid
		case api.Set:
			b.Items = some.Clone(a).Items
		case api.Record:
			b.Items, b.Names = append(some.Clone(a).Items, some.Num(3)), some.Clone(a).Names // the last one has no name
		}
		wantOrder(t, a, b, 0)
		wantOrder(t, b, a, 0)
		wantOrder(t, some.Set(a), some.Set(b), 0)
		wantOrder(t, a, all(kind+1, 0, ""), -1)
		wantOrder(t, b, all(kind-1, 0, ""), 1)
	}
}

func TestP3_1Records(t *testing.T) {
	for _, c := range []struct {
		a, b api.Value
		want int
	}{
		{some.Record("a", some.Num(9)), some.Record("b", some.Num(1)), -1},                                           // names are ahead of items
		{some.Record("a", some.Num(9)), some.Record("a b", some.Num(1), some.Num(1)), -1},                            // as is how many they are
		{some.Record("a c", some.Num(1), some.Num(1)), some.Record("a b c", some.Num(2), some.Num(2)), 1},            // but behind the names themselves
		{some.Record("a b", some.Num(1), some.Num(2)), some.Record("b a", some.Num(2), some.Num(1)), -1},             // as they stand
		{some.Record("a", some.Num(1), some.Num(2)), some.Record("a", some.Num(1), some.Num(3)), 0},                  // an item without a name
		{some.Record("", some.Num(1)), some.Record("", some.Num(2), some.Num(3)), 0},                                 // and without any
		{some.Record("", some.Num(1)), some.Record(""), 0},                                                           //
		{some.Record("a b", some.Num(1)), some.Record("a b", some.Num(1), some.Num(-9)), -1},                         // a missing item
		{some.Record("a b", some.Num(1)), some.Record("a b", some.Num(1), api.Value{}), -1},                          // is ahead of whatever is there
		{some.Record("a b", some.Num(2)), some.Record("a b", some.Num(1), some.Num(1)), 1},                           // but behind the items ahead of it
		{some.Record("a b"), some.Record("a b", api.Value{Kind: math.MinInt}), -1},                                   //
		{some.Record("a b"), some.Record("a b"), 0},                                                                  // both miss them
		{some.Record("a b", some.Num(1), some.Num(1)), some.Record("a b", some.Num(1), some.Num(1), some.Num(1)), 0}, //
	} {
		wantOrder(t, c.a, c.b, c.want)
		wantOrder(t, c.b, c.a, -c.want)
	}
}

// TestP3_1Pairs holds the order of all pairs against that of their keys.
func TestP3_1Pairs(t *testing.T) {
	l := spread(1200, false)
	for _, ladder := range ladders() {
		l = append(l, ladder...)
	}
	var keys []string
	for _, v := range l {
		keys = append(keys, key(v))
	}
	same := 0
	for i, a := range l {
		for j, b := range l {
			want := strings.Compare(keys[i], keys[j])
			if o := Order(a, b); o != want {
				t.Fatalf("Order(%v, %v): %d; not %d", a, b, o, want)
			}
			if Same(a, b) != (want == 0) {
				t.Fatalf("Same(%v, %v): %t", a, b, want != 0)
			}
			if want == 0 && i != j {
				same++
			}
		}
	}
	if same == 0 {
		t.Error("no two were the same")
	}
}

func TestP3_2Canon(t *testing.T) {
	for _, c := range []struct{ v, want api.Value }{
		{some.Set(some.Num(2), some.Num(1), some.Num(2)), some.Set(some.Num(1), some.Num(2))}, // the document's example
		{some.Truth(true), some.Truth(true)},
		{some.Truth(false), some.Truth(false)},
		{some.Num(math.MinInt64), some.Num(math.MinInt64)},
		{some.Text(""), some.Text("")},
		{some.Text("a\x00\xff"), some.Text("a\x00\xff")},
		{some.Ref("", ""), some.Ref("", "")},
		{some.Ref("U", "a"), some.Ref("U", "a")},
		{some.Set(), some.Set()},
		{api.Value{Kind: api.Set, Items: []api.Value{}, Names: []string{}}, some.Set()},
		{some.Record(""), some.Record("")},
		{some.Set(some.Num(3), some.Num(2), some.Num(1)), some.Set(some.Num(1), some.Num(2), some.Num(3))},
		{some.Set(some.Num(1), some.Num(1), some.Num(1)), some.Set(some.Num(1))},
		{some.Set(some.Record(""), some.Set(), some.Ref("a", "a"), some.Text("a"), some.Num(1), some.Truth(true), some.Truth(false)), some.Set(some.Truth(false), some.Truth(true), some.Num(1), some.Text("a"), some.Ref("a", "a"), some.Set(), some.Record(""))},
		{some.Set(some.Text("ab"), some.Text("a"), some.Text("\xff"), some.Text(""), some.Text("b"), some.Text("a")), some.Set(some.Text(""), some.Text("a"), some.Text("ab"), some.Text("b"), some.Text("\xff"))},
		{some.Set(some.Set(some.Num(2), some.Num(1)), some.Set(some.Num(1), some.Num(2), some.Num(1))), some.Set(some.Set(some.Num(1), some.Num(2)))}, // the same, once they are as they must be
		{some.Set(some.Set(some.Num(3), some.Num(1)), some.Set(some.Num(2), some.Num(1))), some.Set(some.Set(some.Num(1), some.Num(2)), some.Set(some.Num(1), some.Num(3)))},
		{some.Set(some.Set(some.Num(2), some.Num(1)), some.Set(some.Num(1), some.Num(3))), some.Set(some.Set(some.Num(1), some.Num(2)), some.Set(some.Num(1), some.Num(3)))},
		{some.Set(some.Record("b a", some.Num(1), some.Num(2)), some.Record("a b", some.Num(2), some.Num(1))), some.Set(some.Record("a b", some.Num(2), some.Num(1)))},
		{some.Record("b a", some.Num(1), some.Num(2)), some.Record("a b", some.Num(2), some.Num(1))},
		{some.Record("b a c", some.Set(some.Num(2), some.Num(1)), some.Num(7), some.Record("z y", some.Num(1), some.Num(2))), some.Record("a b c", some.Num(7), some.Set(some.Num(1), some.Num(2)), some.Record("y z", some.Num(2), some.Num(1)))},
		{some.Record("a b", some.Num(1), some.Num(1)), some.Record("a b", some.Num(1), some.Num(1))},
		{api.Value{Kind: api.Record, Names: []string{"a b", "", "\xff", "A"}, Items: numbers(4)}, api.Value{Kind: api.Record, Names: []string{"", "A", "a b", "\xff"}, Items: []api.Value{some.Num(3), some.Num(1), some.Num(4), some.Num(2)}}},
	} {
		wantCanon(t, c.v, c.want)
	}
}

// TestP3_2OtherFields has what a kind has not: it is left out, and what is wrong in it is no error.
func TestP3_2OtherFields(t *testing.T) {
	wrong := []api.Value{{Kind: 9}, some.Record("a"), some.Record("a a", some.Num(1), some.Num(1)), some.Tower(60, some.Num(1)), some.Set(numbers(5000)...)}
	for _, c := range []struct {
		kind int
		want api.Value
	}{{api.Bool, some.Truth(true)}, {api.Int, some.Num(5)}, {api.Text, some.Text("t")}, {api.Ref, some.Ref("t", "t")}} {
		v := all(c.kind, 5, "t", wrong...)
		wantCanon(t, v, c.want)
		wantCanon(t, some.Set(v, c.want), some.Set(c.want))
		wantCanon(t, some.Record("a", v), some.Record("a", c.want))
		v.Names = []string{"a", "a"}
		wantCanon(t, v, c.want)
	}
	wantCanon(t, all(api.Set, 5, "t", some.Num(2), some.Num(1)), some.Set(some.Num(1), some.Num(2)))
	v := all(api.Set, 5, "t", some.Num(2), some.Num(1))
	v.Names = []string{"a", "a", "a"}
	wantCanon(t, v, some.Set(some.Num(1), some.Num(2)))
	v = all(api.Record, 5, "t", all(api.Int, 2, "u"), all(api.Text, 2, "u"))
	v.Names = []string{"b", "a"}
	wantCanon(t, v, some.Record("a b", some.Text("u"), some.Num(2)))
}

func TestP3_2Arg(t *testing.T) {
	for _, kind := range []int{math.MinInt, -1, 0, 7, 8, 100, math.MaxInt} {
		name := fmt.Sprint("a kind ", kind)
		v := all(kind, 1, "a")
		wantError(t, name, v, api.ErrArg)
		wantError(t, name+" in a set", some.Set(some.Num(1), v, some.Num(2)), api.ErrArg)
		wantError(t, name+" in a record", some.Record("a b", some.Num(1), v), api.ErrArg)
		wantError(t, name+" far inside", some.Tower(49, v), api.ErrArg)
	}
	for _, v := range []api.Value{
		some.Record("a"), some.Record("", some.Num(1)), some.Record("a b", some.Num(1)), some.Record("a", some.Num(1), some.Num(2)), some.Record("a a", some.Num(1)), some.Record("a a a", some.Num(1), some.Num(1)),
		{Kind: api.Record, Names: names(5000)}, {Kind: api.Record, Items: numbers(5000)}, {Kind: api.Record, Names: names(4097), Items: numbers(4096)},
	} {
		wantError(t, "a record with other numbers", v, api.ErrArg)
		wantError(t, "one in a set", some.Set(some.Set(), v), api.ErrArg)
		wantError(t, "one in a record", some.Record("a b", some.Set(), v), api.ErrArg)
	}
}

func TestP3_2Deep(t *testing.T) {
	for _, innermost := range []api.Value{some.Num(1), some.Text("a"), some.Set(), some.Record("")} {
		v := some.Tower(api.MaxDepth, innermost)
		wantCanon(t, v, v)
		wantError(t, "one too deep", some.Tower(api.MaxDepth+1, innermost), api.ErrDeep)
		wantError(t, "a set of one", some.Set(v), api.ErrDeep)
		wantError(t, "the last of a set", some.Set(some.Num(1), some.Tower(3, some.Num(1)), v), api.ErrDeep)
		wantError(t, "the last of a record", some.Record("a b", some.Num(1), v), api.ErrDeep)
	}
	wantError(t, "very deep", some.Tower(1<<16, some.Num(1)), api.ErrDeep)
	within := some.Set(some.Num(1), api.Value{})
	within.Items[1] = within
	wantError(t, "a set within itself", within, api.ErrDeep)
	within = some.Record("a b", some.Num(1), api.Value{})
	within.Items[0] = within
	wantError(t, "a record within itself", within, api.ErrDeep)
	v := some.Tower(api.MaxDepth, all(api.Int, 1, "a", some.Tower(5, some.Num(1)))) // what an Int has no use for isn't nested in it
	if Depth(v) != api.MaxDepth {
		t.Error(Depth(v))
	}
	wantCanon(t, v, some.Tower(api.MaxDepth, some.Num(1)))
}

func TestP3_2Long(t *testing.T) {
	items := numbers(api.MaxItems + 1)
	most := items[1:] // from MaxItems down to 1
	rising := slices.Clone(most)
	slices.Reverse(rising)
	wantCanon(t, some.Set(most...), some.Set(rising...))
	wantError(t, "a long set", some.Set(items...), api.ErrLong)
	wantError(t, "one in a set", some.Set(some.Set(items...)), api.ErrLong)
	wantError(t, "one in a record", some.Record("a b", some.Num(1), some.Set(items...)), api.ErrLong)
	n := names(api.MaxItems + 1)
	risingNames := slices.Clone(n[1:])
	slices.Reverse(risingNames)
	wantCanon(t, api.Value{Kind: api.Record, Names: n[1:], Items: most}, api.Value{Kind: api.Record, Names: risingNames, Items: rising})
	wantError(t, "a long record", api.Value{Kind: api.Record, Names: n, Items: items}, api.ErrLong)
	// How many a set has is asked of the set that is handed in, not of the one that is told.
	equal := slices.Repeat([]api.Value{some.Num(1)}, api.MaxItems)
	wantCanon(t, some.Set(equal...), some.Set(some.Num(1)))
	wantError(t, "a long set of one value", some.Set(append(equal, some.Num(1))...), api.ErrLong)
	wantCanon(t, some.Set(some.Set(most...), some.Set(most[1:]...)), some.Set(some.Set(rising[:api.MaxItems-1]...), some.Set(rising...))) // more in all than one may have
}

func TestP3_2Twice(t *testing.T) {
	for _, v := range []api.Value{
		some.Record("a a", some.Num(1), some.Num(1)), some.Record("a a", some.Num(1), some.Num(2)), some.Record("a b a", some.Num(1), some.Num(2), some.Num(3)), some.Record("b a c b", some.Num(1), some.Num(2), some.Num(3), some.Num(4)),
		{Kind: api.Record, Names: []string{"", ""}, Items: numbers(2)}, {Kind: api.Record, Names: append(names(4095), "n000001"), Items: numbers(4096)},
	} {
		wantError(t, "a name twice", v, api.ErrTwice)
		wantError(t, "that in a set", some.Set(some.Num(1), v), api.ErrTwice)
		wantError(t, "that in a record", some.Record("a b", some.Num(1), v), api.ErrTwice)
	}
	v := some.Record("a b", some.Record("a b", some.Num(1), some.Num(2)), some.Record("a b", some.Num(1), some.Num(2))) // once in each
	wantCanon(t, v, v)
}

// TestP3_2Several has several faults each, of which one is told.
func TestP3_2Several(t *testing.T) {
	arg, twice := api.Value{}, some.Record("a a", some.Num(1), some.Num(1))
	long, deep := some.Set(numbers(api.MaxItems+1)...), some.Tower(api.MaxDepth+1, some.Num(1))
	numbersAnd := func(l ...api.Value) []api.Value { return append(numbers(api.MaxItems), l...) }
	for _, c := range []struct {
		name string
		v    api.Value
		want api.Errno
	}{
		{"a kind, deep", some.Set(arg, deep), api.ErrDeep},
		{"long, twice, deep", some.Record("a a", long, deep), api.ErrDeep},
		{"other numbers, deep", some.Record("a", some.Num(1), deep), api.ErrDeep},
		{"a kind as deep as may be, one deeper", some.Set(some.Tower(49, arg), some.Tower(50, arg)), api.ErrDeep},
		{"long, with a deep one", some.Set(numbersAnd(deep)...), api.ErrDeep},
		{"another kind with deep items, a kind", some.Set(all(api.Int, 1, "a", deep), arg), api.ErrArg},
		{"a kind with deep items", all(9, 1, "a", deep), api.ErrArg},
		{"a kind, twice", some.Set(arg, twice), api.ErrArg},
		{"twice, a kind", some.Set(twice, arg), api.ErrTwice},
		{"long, a kind", some.Set(long, arg), api.ErrLong},
		{"a kind, long", some.Set(arg, long), api.ErrArg},
		{"twice, long", some.Set(twice, long), api.ErrTwice},
		{"long, twice", some.Set(long, twice), api.ErrLong},
		{"far inside, one by one", some.Set(some.Set(some.Set(twice)), arg), api.ErrTwice},
		{"a record's items in their order, not by names", some.Record("b a", twice, arg), api.ErrTwice},
		{"a record's items in their order, not by names", some.Record("b a", arg, twice), api.ErrArg},
		{"other numbers, a twice inside", some.Record("a", twice, some.Num(1)), api.ErrArg},
		{"other numbers, twice", some.Record("a a", some.Num(1), some.Num(1), some.Num(1)), api.ErrArg},
		{"other numbers, long", api.Value{Kind: api.Record, Names: []string{"a"}, Items: numbers(5000)}, api.ErrArg},
		{"other numbers, a long one inside", some.Record("a", long, some.Num(1)), api.ErrArg},
		{"twice, a kind inside", some.Record("a a", some.Num(1), arg), api.ErrArg},
		{"twice, a long one inside", some.Record("a a", some.Num(1), long), api.ErrLong},
		{"long, a kind at the end", some.Set(numbersAnd(arg)...), api.ErrArg},
		{"long, twice at the end", some.Set(numbersAnd(twice)...), api.ErrTwice},
		{"long record, twice at the end", api.Value{Kind: api.Record, Names: names(4097), Items: numbersAnd(twice)}, api.ErrTwice},
		{"long record, a name twice", api.Value{Kind: api.Record, Names: append(names(4096), "n000001"), Items: numbers(4097)}, api.ErrLong},
		{"long record of one name", api.Value{Kind: api.Record, Names: slices.Repeat([]string{"a"}, 4097), Items: numbers(4097)}, api.ErrLong},
	} {
		wantError(t, c.name, c.v, c.want)
		wantError(t, "a set of "+c.name, some.Set(c.v), c.want)
	}
}

// fault is the error of a value that is neither deep nor long, by the document's words: an oracle.
func fault(v api.Value) api.Errno {
	if v.Kind < api.Bool || v.Kind > api.Record || v.Kind == api.Record && len(v.Names) != len(v.Items) {
		return api.ErrArg
	}
	if v.Kind < api.Set {
		return api.OK
	}
	for _, item := range v.Items {
		if e := fault(item); e != api.OK {
			return e
		}
	}
	for i, name := range v.Names {
		if v.Kind == api.Record && slices.Contains(v.Names[:i], name) {
			return api.ErrTwice
		}
	}
	return api.OK
}

// TestP3_2Spread holds Canon of many values against the oracles, good ones and others.
func TestP3_2Spread(t *testing.T) {
	told := map[api.Errno]int{}
	for _, v := range append(spread(3000, true), spread(3000, false)...) {
		e := fault(v)
		told[e]++
		if e == api.OK {
			wantCanon(t, v, canonical(v))
		} else {
			wantError(t, fmt.Sprint(v), v, e)
		}
	}
	if told[api.OK] < 3000 || told[api.ErrArg] < 100 || told[api.ErrTwice] < 100 {
		t.Error("too few of a kind:", told)
	}
}

// TestP3_2Memory holds that what is handed in stays, and that what is told is in new memory, each list in its own.
func TestP3_2Memory(t *testing.T) {
	for _, v := range append(spread(500, true), some.Set(numbers(50)...), api.Value{Kind: api.Record, Names: names(50), Items: numbers(50)}) {
		was := some.Clone(v)
		c, e := Canon(v)
		if e != api.OK || !reflect.DeepEqual(v, was) {
			t.Fatalf("Canon of %v, %d: it is %v then", was, e, v)
		}
		told := some.Clone(c)
		some.Spoil(c)
		if !reflect.DeepEqual(v, was) {
			t.Fatalf("%v: it is %v once its Canon is changed", was, v)
		}
		c, _ = Canon(v)
		some.Spoil(v)
		if !reflect.DeepEqual(c, told) {
			t.Fatalf("Canon of %v is %v once it is changed itself; not %v", was, c, told)
		}
	}
	shared := some.Set(some.Num(2), some.Num(1), some.Record("b a", some.Num(1), some.Num(2)))
	c, _ := Canon(some.Record("a b c", shared, shared, some.Set(shared)))
	some.Spoil(c.Items[0])
	want := some.Set(some.Num(1), some.Num(2), some.Record("a b", some.Num(2), some.Num(1)))
	if !some.Equal(c.Items[1], want) || !some.Equal(c.Items[2], some.Set(want)) {
		t.Error("places of one answer share memory:", c)
	}
	row := numbers(4)
	Canon(some.Set(some.Set(row[:2]...), some.Set(row[:1]...)))
	if !some.Equal(some.Set(row...), some.Set(numbers(4)...)) {
		t.Error("what stands behind a list is changed:", row)
	}
}

func TestP3_3Holds(t *testing.T) {
	twins := some.Set(some.Num(1), all(api.Text, 1, "a", some.Num(1)), some.Set(some.Num(2), some.Num(1)), all(9, 1, "a"))
	for _, c := range []struct {
		set, v api.Value
		want   bool
	}{
		{some.Set(some.Num(1), some.Text("2")), some.Num(1), true},
		{some.Set(some.Num(1), some.Text("2")), some.Text("2"), true},
		{some.Set(some.Num(1), some.Text("1")), some.Num(2), false},
		{some.Set(some.Num(1)), some.Text("1"), false}, // as the document's example
		{some.Set(some.Text("1")), some.Num(1), false},
		{some.Set(some.Num(1), some.Text("1")), some.Set(some.Num(1)), false},
		{some.Set(), some.Num(1), false},
		{some.Set(), some.Set(), false},
		{some.Set(some.Set()), some.Set(), true},
		{some.Set(some.Num(3), some.Num(1), some.Num(2)), some.Num(2), true}, // whatever its order
		{some.Set(some.Num(3), some.Num(1), some.Num(2)), some.Num(3), true},
		{some.Set(some.Num(1)), some.Set(some.Num(1)), false},
		{some.Set(some.Set(some.Num(1))), some.Num(1), false},
		{some.Set(some.Truth(false)), some.Truth(false), true},
		{some.Set(some.Truth(false)), some.Truth(true), false},
		{some.Set(some.Ref("U", "a")), some.Ref("U", "a"), true},
		{some.Set(some.Ref("U", "a")), some.Ref("U", "b"), false},
		{some.Set(some.Ref("U", "a")), some.Ref("V", "a"), false},
		{some.Set(some.Record("a", some.Num(1))), some.Record("a", some.Num(1)), true},
		{some.Set(some.Record("a", some.Num(1))), some.Record("a", some.Num(2)), false},
		{some.Set(some.Record("a", some.Num(1))), some.Record("b", some.Num(1)), false},
		{twins, some.Text("a"), true}, // what its kind has not doesn't count
		{twins, some.Set(some.Num(2), some.Num(1)), true},
		{twins, some.Set(some.Num(1), some.Num(2)), false}, // neither is as it must be
		{twins, all(9, 2, "b", some.Num(3)), true},
		{twins, all(8, 1, "a"), false},
		{some.Set(numbers(5000)...), some.Num(1), true},
		{some.Set(numbers(5000)...), some.Num(5001), false},
	} {
		if Holds(c.set, c.v) != c.want {
			t.Errorf("Holds(%.200s, %v): %t", fmt.Sprint(c.set), c.v, !c.want)
		}
	}
	for kind := -2; kind <= 9; kind++ {
		v := all(kind, 1, "a", some.Num(1))
		if Holds(v, some.Num(1)) != (kind == api.Set) {
			t.Errorf("Holds of kind %d: %t", kind, kind != api.Set)
		}
	}
}

func TestP3_3Get(t *testing.T) {
	r := some.Record("b a b c", some.Num(1), some.Text("x"), some.Num(3))
	for _, c := range []struct {
		record api.Value
		name   string
		want   api.Value
		ok     bool
	}{
		{r, "a", some.Text("x"), true},
		{r, "b", some.Num(1), true},  // the first one
		{r, "c", api.Value{}, false}, // a name without an item
		{r, "d", api.Value{}, false},
		{r, "", api.Value{}, false},
		{r, "A", api.Value{}, false},
		{r, "ab", api.Value{}, false},
		{some.Record(""), "a", api.Value{}, false},
		{some.Record("a"), "a", api.Value{}, false},
		{some.Record("a a"), "a", api.Value{}, false},
		{some.Record("", some.Num(1)), "", api.Value{}, false},
		{some.Record("a", some.Num(1), some.Num(2)), "a", some.Num(1), true},
		{some.Record("a b c", some.Num(1), some.Num(2), some.Num(3)), "c", some.Num(3), true},
		{api.Value{Kind: api.Record, Names: []string{"a ", ""}, Items: numbers(2)}, "", some.Num(1), true},
		{api.Value{Kind: api.Record, Names: []string{"a ", ""}, Items: numbers(2)}, "a", api.Value{}, false},
		{some.Record("a", some.Record("b", some.Num(1))), "a", some.Record("b", some.Num(1)), true},
		{some.Record("a", some.Record("b", some.Num(1))), "b", api.Value{}, false},
		{some.Record("a", all(9, 1, "z", some.Num(1))), "a", all(9, 1, "z", some.Num(1)), true},
	} {
		if v, ok := Get(c.record, c.name); ok != c.ok || !some.Equal(v, c.want) {
			t.Errorf("Get(%v, %q): %v, %t; not %v, %t", c.record, c.name, v, ok, c.want, c.ok)
		}
	}
	for kind := -2; kind <= 9; kind++ {
		v := all(kind, 1, "a", some.Num(1))
		v.Names[0] = "a"
		want := api.Value{}
		if kind == api.Record {
			want = some.Num(1)
		}
		if v, ok := Get(v, "a"); ok != (kind == api.Record) || !some.Equal(v, want) {
			t.Errorf("Get of kind %d: %v, %t", kind, v, ok)
		}
	}
}

// TestP3_4Order holds that Order is an order: of two that aren't the same one is first, and it goes on from one to the next.
func TestP3_4Order(t *testing.T) {
	l := spread(150, false)
	for _, a := range l {
		wantOrder(t, a, a, 0)
		wantOrder(t, a, some.Clone(a), 0)
		for _, b := range l {
			o := Order(a, b)
			if o < -1 || o > 1 || Order(b, a) != -o {
				t.Errorf("%v, %v: %d; turned round %d", a, b, o, Order(b, a))
			}
			for _, c := range l {
				if p := Order(b, c); o <= 0 && p <= 0 && Order(a, c) != min(o, p) {
					t.Fatalf("%v, %v, %v: %d, %d, but %d", a, b, c, o, p, Order(a, c))
				}
			}
		}
	}
}

func TestP3_4CanonAgain(t *testing.T) {
	for _, v := range spread(2000, true) {
		c, e := Canon(v)
		if e != api.OK {
			t.Fatalf("Canon(%v): %d", v, e)
		}
		wantCanon(t, c, c)
		wantOrder(t, c, canonical(v), 0)
		if c.Kind < api.Set { // of these Canon tells the same one
			wantOrder(t, c, v, 0)
		}
	}
}

// shuffled is a value with each Set's Items in another order, some of them twice, and each Record's Names in another order.
func (s *source) shuffled(v api.Value) api.Value {
	v = some.Clone(v)
	for i := range v.Items {
		v.Items[i] = s.shuffled(v.Items[i])
	}
	for range v.Items {
		if i := s.Below(len(v.Items)); v.Kind == api.Set {
			v.Items = append(v.Items, s.shuffled(v.Items[i]))
		}
	}
	for i := range v.Items {
		j := s.Below(i + 1)
		v.Items[i], v.Items[j] = v.Items[j], v.Items[i]
		if v.Kind == api.Record {
			v.Names[i], v.Names[j] = v.Names[j], v.Names[i]
		}
	}
	return v
}

func TestP3_4ItemsOrder(t *testing.T) {
	s := &source{4101842887655102017}
	moved := 0
	for _, v := range spread(1000, true) {
		want, _ := Canon(v)
		for range 3 {
			w := s.shuffled(v)
			if !Same(v, w) {
				moved++
			}
			wantCanon(t, w, want)
		}
	}
	if moved < 500 {
		t.Error("too few are in another order:", moved)
	}
}

// TestP3_4SameCanon holds that values are the same, once they are as they must be, just if nothing tells them apart.
func TestP3_4SameCanon(t *testing.T) {
	var l []api.Value
	for _, v := range spread(400, true) {
		c, _ := Canon(v)
		l = append(l, c)
	}
	for _, a := range l {
		for _, b := range l {
			if Same(a, b) != some.Equal(a, b) {
				t.Fatalf("%v, %v: %t", a, b, Same(a, b))
			}
		}
	}
}

// TestWordsDepth asks for the depth of values, Canon of which may be an error.
func TestWordsDepth(t *testing.T) {
	for _, c := range []struct {
		v    api.Value
		want int
	}{
		{api.Value{}, 1},
		{some.Truth(true), 1},
		{some.Num(1), 1},
		{some.Text("a"), 1},
		{some.Ref("a", "a"), 1},
		{some.Set(), 1},
		{some.Record(""), 1},
		{some.Record("a b"), 1},
		{some.Set(some.Num(1)), 2},
		{some.Set(some.Set()), 2},
		{some.Record("a", some.Num(1)), 2},
		{some.Record("", some.Num(1)), 2}, // Items count, whether they have Names or not
		{some.Record("", some.Num(1), some.Set(some.Num(1))), 3},
		{some.Set(some.Num(1), some.Set(some.Num(1), some.Record("a", some.Num(1))), some.Num(2)), 4},
		{some.Set(some.Tower(5, some.Num(1)), some.Tower(3, some.Num(1))), 6},
		{some.Set(some.Tower(3, some.Num(1)), some.Tower(5, some.Num(1))), 6},
		{some.Record("a b", some.Tower(3, some.Num(1)), some.Tower(7, some.Num(1))), 8},
		{all(api.Bool, 1, "a", some.Set(some.Num(1))), 1},
		{all(api.Int, 1, "a", some.Set(some.Num(1))), 1},
		{all(api.Text, 1, "a", some.Set(some.Num(1))), 1},
		{all(api.Ref, 1, "a", some.Set(some.Num(1))), 1},
		{all(0, 1, "a", some.Set(some.Num(1))), 1},
		{all(7, 1, "a", some.Set(some.Num(1))), 1},
		{all(-1, 1, "a", some.Set(some.Num(1))), 1},
		{some.Set(all(api.Int, 1, "a", some.Set(some.Num(1)))), 2},
		{some.Set(numbers(5000)...), 2},
		{some.Tower(1<<16, some.Num(1)), 1 << 16},
	} {
		if d := Depth(c.v); d != c.want {
			t.Errorf("Depth(%.200s): %d; not %d", fmt.Sprintf("%.200v", c.v), d, c.want)
		}
	}
}

// TestRulesDeep has values that are nested as deep as may be.
func TestRulesDeep(t *testing.T) {
	a, b := some.Tower(1<<16, some.Num(1)), some.Tower(1<<16, some.Num(2))
	if Order(a, b) != -1 || Order(b, a) != 1 || Order(a, some.Tower(1<<16, some.Num(1))) != 0 || Same(a, b) || !Same(a, a) {
		t.Error("Order")
	}
	if !Holds(some.Set(b, a), a) || Holds(some.Set(b), a) {
		t.Error("Holds")
	}
	if v, ok := Get(some.Record("a", b), "a"); !ok || !Same(v, b) {
		t.Error("Get")
	}
}

// TestRulesUnchanged holds that no call changes what is handed in.
func TestRulesUnchanged(t *testing.T) {
	l := spread(300, false)
	for i, v := range l {
		w := l[(i*7+1)%len(l)]
		was, wasToo := some.Clone(v), some.Clone(w)
		Order(v, w)
		Same(v, w)
		Canon(v)
		Holds(v, w)
		Get(v, "a")
		Depth(v)
		if !reflect.DeepEqual(v, was) || !reflect.DeepEqual(w, wasToo) {
			t.Fatalf("%v, %v are %v, %v then", was, wasToo, v, w)
		}
	}
}
