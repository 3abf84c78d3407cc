package codec

import (
	"bytes"
	"fmt"
	"math"
	"math/rand"
	"reflect"
	"slices"
	"strings"
	"testing"

	"chamberlain/api"
	"chamberlain/some"
	"chamberlain/value"
)

// numbers are the numbers from 1 to n.
func numbers(n int) []api.Value {
	var l []api.Value
	for i := range n {
		l = append(l, some.Num(int64(i+1)))
	}
	return l
}

// many is a record of n truths, its names rising.
func many(n int) api.Value {
	v := api.Value{Kind: api.Record}
	for i := range n {
		v.Names = append(v.Names, fmt.Sprintf("%05d", i))
		v.Items = append(v.Items, some.Truth(i%2 == 0))
	}
	return v
}

// length is a length's four bytes, by the document's words: an oracle.
func length(n int) []byte {
	return []byte{byte(n / (1 << 24)), byte(n / (1 << 16) % 256), byte(n / 256 % 256), byte(n % 256)}
}

func textBytes(s string) []byte { return append(length(len(s)), s...) }

// laid are the bytes of a value that is as Canon tells it, by the document's words: an oracle.
func laid(v api.Value) []byte {
	b := []byte{byte(v.Kind)}
	switch v.Kind {
	case api.Bool:
		if v.Bool {
			return append(b, 1)
		}
		return append(b, 0)
	case api.Int:
		high, low := int(v.Int>>32)&math.MaxUint32, int(v.Int&math.MaxUint32)
		return slices.Concat(b, length(high), length(low))
	case api.Text:
		return slices.Concat(b, textBytes(v.Text))
	case api.Ref:
		return slices.Concat(b, textBytes(v.Uid.Type), textBytes(v.Uid.Id))
	}
	b = append(b, length(len(v.Items))...)
	for i, item := range v.Items {
		if v.Kind == api.Record {
			b = append(b, textBytes(v.Names[i])...)
		}
		b = append(b, laid(item)...)
	}
	return b
}

// written are values of all kinds, each as Canon tells it, and their bytes, written out.
func written() []struct {
	v api.Value
	b string
} {
	return []struct {
		v api.Value
		b string
	}{
		{some.Truth(true), "\x01\x01"},
		{some.Truth(false), "\x01\x00"},
		{some.Num(0), "\x02\x00\x00\x00\x00\x00\x00\x00\x00"},
		{some.Num(1), "\x02\x00\x00\x00\x00\x00\x00\x00\x01"},
		{some.Num(-1), "\x02\xff\xff\xff\xff\xff\xff\xff\xff"},
		{some.Num(-2), "\x02\xff\xff\xff\xff\xff\xff\xff\xfe"},
		{some.Num(0x0102030405060708), "\x02\x01\x02\x03\x04\x05\x06\x07\x08"},
		{some.Num(math.MaxInt64), "\x02\x7f\xff\xff\xff\xff\xff\xff\xff"},
		{some.Num(math.MinInt64), "\x02\x80\x00\x00\x00\x00\x00\x00\x00"},
		{some.Text(""), "\x03\x00\x00\x00\x00"},
		{some.Text("a"), "\x03\x00\x00\x00\x01a"},
		{some.Text("\x00\xffü"), "\x03\x00\x00\x00\x04\x00\xff\xc3\xbc"},
		{some.Ref("", ""), "\x04\x00\x00\x00\x00\x00\x00\x00\x00"},
		{some.Ref("A::B", "id"), "\x04\x00\x00\x00\x04A::B\x00\x00\x00\x02id"},
		{some.Set(), "\x05\x00\x00\x00\x00"},
		{some.Set(some.Num(1), some.Text("")), "\x05\x00\x00\x00\x02\x02\x00\x00\x00\x00\x00\x00\x00\x01\x03\x00\x00\x00\x00"},
		{some.Set(some.Set(), some.Set(some.Truth(true))), "\x05\x00\x00\x00\x02\x05\x00\x00\x00\x00\x05\x00\x00\x00\x01\x01\x01"},
		{some.Record(""), "\x06\x00\x00\x00\x00"},
		{some.Record("a bc", some.Truth(true), some.Truth(false)), "\x06\x00\x00\x00\x02\x00\x00\x00\x01a\x01\x01\x00\x00\x00\x02bc\x01\x00"},
		{api.Value{Kind: api.Record, Names: []string{""}, Items: []api.Value{some.Record("x", some.Set())}}, "\x06\x00\x00\x00\x01\x00\x00\x00\x00\x06\x00\x00\x00\x01\x00\x00\x00\x01x\x05\x00\x00\x00\x00"},
	}
}

// chance makes values of all kinds, small ones, so that some are the Same: the same row of them each time.
func chance(r *rand.Rand, depth int) api.Value {
	short := func() string { return []string{"", "a", "b", "ab", "\x00", "\x01\x01"}[r.Intn(6)] }
	kind := 1 + r.Intn(6)
	if depth == 1 {
		kind = 1 + r.Intn(4)
	}
	v := api.Value{Kind: kind, Bool: r.Intn(2) == 0, Int: int64(r.Intn(5)-2) << r.Intn(63), Text: short(), Uid: api.Uid{Type: short(), Id: short()}}
	for _, name := range r.Perm(4)[:r.Intn(4)] {
		if depth > 1 {
			v.Items = append(v.Items, chance(r, depth-1))
			v.Names = append(v.Names, []string{"", "a", "ab", "b"}[name])
		}
	}
	return v
}

func wantBytes(t *testing.T, v api.Value, want []byte) {
	t.Helper()
	if b, e := Encode(v); !bytes.Equal(b, want) || e != api.OK {
		t.Errorf("Encode(%.200v): %.200v %v, not %.200v", v, b, e, want)
	}
}

func wantValue(t *testing.T, b []byte, want api.Value) {
	t.Helper()
	if v, e := Decode(b); !some.Equal(v, want) || e != api.OK {
		t.Errorf("Decode(%.200v): %.200v %v, not %.200v", b, v, e, want)
	}
}

func wantNoBytes(t *testing.T, what string, v api.Value, want api.Errno) {
	t.Helper()
	if b, e := Encode(v); len(b) != 0 || e != want {
		t.Errorf("Encode of %s: %d bytes %v, not %v", what, len(b), e, want)
	}
}

func wantNoValue(t *testing.T, what string, b []byte, want api.Errno) {
	t.Helper()
	if v, e := Decode(b); !reflect.DeepEqual(v, api.Value{}) || e != want {
		t.Errorf("Decode of %s: %.200v %v, not %v", what, v, e, want)
	}
}

func TestWordsBytes(t *testing.T) {
	for _, c := range written() {
		wantBytes(t, c.v, []byte(c.b))
		wantValue(t, []byte(c.b), c.v)
		if !bytes.Equal(laid(c.v), []byte(c.b)) {
			t.Errorf("the oracle errs at %v", c.v)
		}
	}
}

func TestWordsLength(t *testing.T) {
	for _, n := range []int{0, 1, 127, 128, 255, 256, 257, 511, 512, 4095, 4096, 32767, 32768, 65280, 65531} {
		s := strings.Repeat("x", n)
		want := append([]byte{3, 0, 0, byte(n >> 8), byte(n)}, s...)
		wantBytes(t, some.Text(s), want)
		wantValue(t, want, some.Text(s))
	}
	for _, n := range []int{255, 256, 258, 4096} {
		want := []byte{5, 0, 0, byte(n >> 8), byte(n)}
		for i := range n {
			want = append(want, 2, 0, 0, 0, 0, 0, 0, byte((i+1)>>8), byte(i+1))
		}
		wantBytes(t, some.Set(numbers(n)...), want)
		wantValue(t, want, some.Set(numbers(n)...))
	}
	b, e := Encode(many(4096))
	if e != api.OK || !bytes.Equal(b[:5], []byte{6, 0, 0, 16, 0}) || len(b) != 5+4096*11 {
		t.Error(len(b), e)
	}
}

func TestWordsInt(t *testing.T) {
	for shift := range 64 {
		for _, n := range []int64{1 << shift, -1 << shift, 1<<shift - 1, ^(1 << shift), 0x5a << shift} {
			b := []byte{2}
			for i := 56; i >= 0; i -= 8 {
				b = append(b, byte(n>>i))
			}
			wantBytes(t, some.Num(n), b)
			wantValue(t, b, some.Num(n))
		}
	}
}

// The bytes are those of the value as Canon tells it: sets and names rise, the Same stands there once, other kinds' fields don't matter.
func TestP4_1EncodeCanon(t *testing.T) {
	cases := []struct {
		v, canon api.Value
	}{
		{some.Set(some.Num(2), some.Num(1), some.Num(2)), some.Set(some.Num(1), some.Num(2))},
		{some.Set(some.Text("1"), some.Num(1), some.Truth(true)), some.Set(some.Truth(true), some.Num(1), some.Text("1"))},
		{some.Record("b a", some.Num(1), some.Num(2)), some.Record("a b", some.Num(2), some.Num(1))},
		{some.Set(some.Set(some.Num(2), some.Num(1)), some.Set(some.Num(1), some.Num(2), some.Num(1))), some.Set(some.Set(some.Num(1), some.Num(2)))},
		{some.Record("b a", some.Set(some.Num(2), some.Num(1)), some.Record("d c", some.Num(3), some.Num(3))), some.Record("a b", some.Record("c d", some.Num(3), some.Num(3)), some.Set(some.Num(1), some.Num(2)))},
		{api.Value{Kind: api.Bool, Bool: true, Int: 9, Text: "x", Uid: api.Uid{Type: "A"}, Items: numbers(3), Names: []string{"x"}}, some.Truth(true)},
		{api.Value{Kind: api.Text, Text: "x", Items: numbers(9000)}, some.Text("x")},
		{api.Value{Kind: api.Set, Items: numbers(1), Names: []string{"x", "x"}, Text: strings.Repeat("x", 1<<20)}, some.Set(some.Num(1))},
		{api.Value{Kind: api.Record, Items: []api.Value{}, Names: []string{}}, some.Record("")},
		{api.Value{Kind: api.Set, Items: []api.Value{}}, some.Set()},
	}
	for _, c := range cases {
		wantBytes(t, c.v, laid(c.canon))
	}
	long := some.Text(strings.Repeat("x", 40000)) // twice in the list, once in the set
	wantBytes(t, some.Set(long, long), laid(some.Set(long)))
}

func TestP4_1EncodeCanonErrors(t *testing.T) {
	long := some.Text(strings.Repeat("x", api.MaxText))
	round := some.Set(some.Num(1))
	round.Items[0] = round
	cases := []struct {
		what string
		v    api.Value
		want api.Errno
	}{
		{"nothing", api.Value{}, api.ErrArg},
		{"Kind -1", api.Value{Kind: -1}, api.ErrArg},
		{"Kind 7", api.Value{Kind: 7}, api.ErrArg},
		{"Kind 257, whose last byte is that of a truth", api.Value{Kind: 257}, api.ErrArg},
		{"a set with such a thing", some.Set(some.Num(1), api.Value{Kind: 7}), api.ErrArg},
		{"a record with a name too many", some.Record("a b", some.Num(1)), api.ErrArg},
		{"a record with an item too many", some.Record("a", some.Num(1), some.Num(2)), api.ErrArg},
		{"a name twice", some.Record("a b a", some.Num(1), some.Num(2), some.Num(3)), api.ErrTwice},
		{"Depth 51", some.Tower(51, some.Num(1)), api.ErrDeep},
		{"Depth 65536", some.Tower(1<<16, some.Num(1)), api.ErrDeep},
		{"a value within itself", round, api.ErrDeep},
		{"4097 numbers", some.Set(numbers(4097)...), api.ErrLong},
		{"4097 names", many(4097), api.ErrLong},
		{"too many bytes, and a wrong Kind", some.Set(long, api.Value{}), api.ErrArg},
		{"too many bytes, and a name twice", some.Record("a a", long, long), api.ErrTwice},
		{"too many bytes, and too deep", some.Set(long, some.Tower(50, some.Num(1))), api.ErrDeep},
	}
	for _, c := range cases {
		wantNoBytes(t, c.what, c.v, c.want)
	}
}

func TestP4_1EncodeLong(t *testing.T) {
	x := func(n int) string { return strings.Repeat("x", n) }
	cases := []struct {
		what string
		make func(n int) api.Value
		most int // the greatest n at which there are just MaxText bytes
	}{
		{"a text", func(n int) api.Value { return some.Text(x(n)) }, 65531},
		{"a type", func(n int) api.Value { return some.Ref(x(n), "") }, 65527},
		{"an id", func(n int) api.Value { return some.Ref("t", x(n)) }, 65526},
		{"a type and an id", func(n int) api.Value { return some.Ref(x(32000), x(n)) }, 33527},
		{"a text in a set", func(n int) api.Value { return some.Set(some.Truth(true), some.Text(x(n))) }, 65524},
		{"a name", func(n int) api.Value { return some.Record(x(n), some.Truth(true)) }, 65525},
		{"an item of a record", func(n int) api.Value { return some.Record("a", some.Text(x(n))) }, 65521},
		{"a first item", func(n int) api.Value { return some.Record("a b", some.Text(x(n)), some.Truth(true)) }, 65514},
		{"Depth 50", func(n int) api.Value { return some.Tower(50, some.Text(x(n))) }, 65531 - 25*5 - 24*10},
		{"texts", func(n int) api.Value { return some.Set(some.Text(x(20000)), some.Text(x(20001)), some.Text(x(n))) }, 65536 - 40001 - 5 - 15},
	}
	for _, c := range cases {
		for _, n := range []int{c.most - 1, c.most} {
			b, e := Encode(c.make(n))
			if len(b) != api.MaxText+n-c.most || e != api.OK {
				t.Errorf("%s of %d: %d bytes %v", c.what, n, len(b), e)
			}
			wantValue(t, b, c.make(n))
		}
		for _, n := range []int{c.most + 1, c.most + 2, 2 * c.most} {
			wantNoBytes(t, fmt.Sprintf("%s of %d", c.what, n), c.make(n), api.ErrLong)
		}
	}
	wide := some.Record("a b", some.Set(numbers(4000)...), some.Set(numbers(3281)...)) // 65551 bytes, none of them a long text's
	wantNoBytes(t, "many numbers", wide, api.ErrLong)
	wide = some.Record("a b", some.Set(numbers(4000)...), some.Set(numbers(3278)...)) // 65527
	wantBytes(t, wide, laid(wide))
	var l []api.Value
	for i := range 500 {
		l = append(l, some.Set(numbers(i)...))
	}
	wantNoBytes(t, "sets of numbers", some.Set(l...), api.ErrLong)
}

func TestP4_1DecodeLong(t *testing.T) {
	fits := laid(some.Text(strings.Repeat("x", 65531)))
	wantValue(t, fits, some.Text(strings.Repeat("x", 65531)))
	cases := []struct {
		what string
		b    []byte
	}{
		{"65537 bytes of a text", laid(some.Text(strings.Repeat("x", 65532)))},
		{"65536 bytes of a text and one more", append(fits, 0)},
		{"65537 bytes of 0", make([]byte, 65537)},
		{"65537 bytes of 1", bytes.Repeat([]byte{1}, 65537)},
		{"a million bytes", make([]byte, 1000000)},
		{"too many numbers", laid(some.Set(numbers(8000)...))},
		{"too many bytes of a set that falls", laid(some.Set(some.Text(strings.Repeat("b", 40000)), some.Text(strings.Repeat("a", 40000))))},
	}
	for _, c := range cases {
		wantNoValue(t, c.what, c.b, api.ErrLong)
	}
}

func TestP4_1DecodeForm(t *testing.T) {
	wantNoValue(t, "nil", nil, api.ErrForm)
	cases := []string{
		"", "\x00", "\x00\x00", "\x07", "\x07\x00\x00\x00\x00", "\xff\x01", "a", // no Kind
		"\x01", "\x01\x02", "\x01\xff", "\x01\x01\x00", "\x01\x01\x01\x01", // truths
		"\x02", "\x02\x00\x00\x00\x01", "\x02\x00\x00\x00\x00\x00\x00\x00", "\x02\x00\x00\x00\x00\x00\x00\x00\x00\x00", // numbers
		"\x03", "\x03\x00\x00\x00", "\x03\x00\x00\x00\x01", "\x03\x00\x00\x00\x00a", "\x03\x00\x00\x00\x02a", "\x03\x01\x00\x00\x00a", "\x03\xff\xff\xff\xff", "\x03\x7f\xff\xff\xffaaaa", "\x03\x80\x00\x00\x00", // texts
		"\x04\x00\x00\x00\x00", "\x04\x00\x00\x00\x01a\x00\x00\x00", "\x04\x00\x00\x00\x01a\x00\x00\x00\x01", "\x04\x00\x00\x00\x01a\x00\x00\x00\x01bc", "\x04\xff\xff\xff\xff\x00\x00\x00\x00", "\x04\x00\x00\x00\x00\xff\xff\xff\xff",
		"\x05", "\x05\x00\x00\x00", "\x05\x00\x00\x00\x01", "\x05\x00\x00\x00\x00\x01\x01", "\x05\x00\x00\x00\x02\x01\x00", "\x05\x00\x00\x00\x01\x01\x02", "\x05\xff\xff\xff\xff", "\x05\xff\xff\xff\xff\x01\x00\x01\x01",
		"\x05\x00\x00\x00\x02\x01\x01\x01\x00",                     // falls
		"\x05\x00\x00\x00\x02\x01\x01\x01\x01",                     // once more
		"\x05\x00\x00\x00\x03\x01\x00\x01\x01\x01\x01",             // once more at the end
		"\x05\x00\x00\x00\x01\x05\x00\x00\x00\x02\x01\x01\x01\x00", // falls within
		"\x05\x00\x00\x00\x01\x00",
		"\x05\x00\x00\x00\x01\x07\x00\x00\x00\x00",
		"\x06", "\x06\x00\x00\x00\x01", "\x06\x00\x00\x00\x01\x00\x00\x00\x00", "\x06\x00\x00\x00\x01\x01\x01", "\x06\xff\xff\xff\xff", "\x06\xff\xff\xff\xff\x00\x00\x00\x01a\x01\x01",
		"\x06\x00\x00\x00\x01\x00\x00\x00\x01a\x01",
		"\x06\x00\x00\x00\x01\x00\x00\x00\x01a\x01\x02",
		"\x06\x00\x00\x00\x01\x00\x00\x00\x02a\x01\x01",
		"\x06\x00\x00\x00\x02\x00\x00\x00\x01b\x01\x01\x00\x00\x00\x01a\x01\x01",  // falls
		"\x06\x00\x00\x00\x02\x00\x00\x00\x01a\x01\x00\x00\x00\x00\x01a\x01\x01",  // a name twice
		"\x06\x00\x00\x00\x02\x00\x00\x00\x02ab\x01\x01\x00\x00\x00\x01a\x01\x01", // the longer one ahead
	}
	for _, c := range cases {
		wantNoValue(t, fmt.Sprintf("%q", c), []byte(c), api.ErrForm)
	}
}

// The greatest and deepest values that there are, and the next ones.
func TestP4_1DecodeLimits(t *testing.T) {
	for _, v := range []api.Value{some.Tower(50, some.Num(7)), some.Tower(50, some.Set()), some.Tower(49, some.Record("")), some.Set(numbers(4096)...), many(4096)} {
		wantValue(t, laid(v), v)
	}
	for _, v := range []api.Value{some.Tower(51, some.Num(7)), some.Tower(51, some.Set()), some.Tower(52, some.Record("")), some.Tower(8000, some.Num(7)), some.Set(numbers(4097)...), many(4097), some.Record("a", many(4097)), some.Set(some.Set(numbers(4097)...))} {
		if len(laid(v)) > api.MaxText {
			t.Fatal("that is too long to tell anything here")
		}
		wantNoValue(t, fmt.Sprintf("%.100q", laid(v)), laid(v), api.ErrForm)
	}
	wantNoValue(t, "sets in sets", bytes.Repeat([]byte{5, 0, 0, 0, 1}, api.MaxText/5), api.ErrForm)
	wantNoValue(t, "records in records", bytes.Repeat([]byte{6, 0, 0, 0, 1, 0, 0, 0, 0}, api.MaxText/9), api.ErrForm)
	wantNoValue(t, "sets of far too many in such sets", bytes.Repeat([]byte{5, 255, 255, 255, 255}, api.MaxText/5), api.ErrForm)
	wantNoValue(t, "Kinds that are none", append([]byte{5, 255, 255, 255, 255}, make([]byte, api.MaxText-5)...), api.ErrForm)
}

// Whatever there is ahead of the end, or behind it: other bytes are a value's only if they are its own.
func TestP4_1DecodeBeside(t *testing.T) {
	for _, c := range written() {
		for n := range len(c.b) {
			wantNoValue(t, fmt.Sprintf("%q", c.b[:n]), []byte(c.b[:n]), api.ErrForm)
		}
		for _, more := range []string{"\x00", "\x01", "\x01\x01", "\xff", c.b} {
			wantNoValue(t, fmt.Sprintf("%q", c.b+more), []byte(c.b+more), api.ErrForm)
		}
		for at := range len(c.b) {
			for other := range 256 {
				b := []byte(c.b)
				b[at] = byte(other)
				whole(t, b)
			}
		}
	}
}

// whole holds Decode of some bytes against the document's words: a value whose bytes they are, else ErrForm.
func whole(t *testing.T, b []byte) {
	t.Helper()
	v, e := Decode(b)
	if e == api.OK {
		if c, err := value.Canon(v); err != api.OK || !some.Equal(c, v) || !bytes.Equal(laid(v), b) {
			t.Fatalf("Decode(%v): %v", b, v)
		}
		return
	}
	if e != api.ErrForm || !reflect.DeepEqual(v, api.Value{}) {
		t.Fatalf("Decode(%v): %v %v", b, v, e)
	}
}

// All short rows of the bytes that matter, behind beginnings that leave much open: just the bytes of values decode.
func TestP4_1DecodeAllShort(t *testing.T) {
	matter := []byte{0, 1, 2, 3, 'a'}
	// rows tells f of all rows of so many bytes.
	var rows func(b []byte, more int, f func([]byte))
	rows = func(b []byte, more int, f func([]byte)) {
		f(b)
		if more > 0 {
			for _, c := range matter {
				rows(append(slices.Clip(b), c), more-1, f)
			}
		}
	}
	heads := []struct {
		head         string
		more, values int // how many bytes more at most, and how many values there are then, counted by the words
	}{
		{"", 5, 2 + 1},                                  // truths, the empty text
		{"\x05\x00\x00\x00\x02", 5, 1},                  // false and true
		{"\x05\x00\x00\x00\x01", 6, 2 + 1 + 5},          // truths, the empty text, texts of one byte
		{"\x06\x00\x00\x00\x01\x00\x00\x00", 5, 31 * 2}, // truths under names of 0 to 2 bytes
		{"\x06\x00\x00\x00\x02\x00\x00\x00\x01\x01\x01\x01\x00\x00\x00", 4, 3 * 2}, // truths under names of a byte that rise
	}
	for _, h := range heads {
		found := 0
		rows([]byte(h.head), h.more, func(b []byte) {
			whole(t, b)
			if _, e := Decode(b); e == api.OK {
				found++
			}
		})
		if found != h.values {
			t.Errorf("behind %q: %d values, not %d", h.head, found, h.values)
		}
	}
}

func TestP4_2Back(t *testing.T) {
	r := rand.New(rand.NewSource(4))
	for range 20000 {
		v := chance(r, 1+r.Intn(4))
		canon, e := value.Canon(v)
		if e != api.OK {
			t.Fatal(v, e)
		}
		b, e := Encode(v)
		if e != api.OK || !bytes.Equal(b, laid(canon)) {
			t.Fatal(v, b, e)
		}
		wantValue(t, b, canon)
		again, e := Encode(canon)
		if e != api.OK || !bytes.Equal(again, b) {
			t.Fatal(canon, again, e)
		}
	}
}

// Values that must be unlike have other bytes, and just those.
func TestP4_2Unlike(t *testing.T) {
	r := rand.New(rand.NewSource(5))
	var canons []api.Value
	var told [][]byte
	for range 1500 {
		v := chance(r, 1+r.Intn(3))
		canon, _ := value.Canon(v)
		b, e := Encode(v)
		if e != api.OK {
			t.Fatal(v, e)
		}
		canons, told = append(canons, canon), append(told, b)
	}
	alike := 0
	for i := range canons {
		for j := range i {
			same := value.Same(canons[i], canons[j])
			if same {
				alike++
			}
			if bytes.Equal(told[i], told[j]) != same {
				t.Fatalf("%v, %v: %v, %v", canons[i], canons[j], told[i], told[j])
			}
		}
	}
	if alike == 0 || alike == len(canons)*(len(canons)-1)/2 {
		t.Error("nothing was told apart")
	}
}

// Damaged bytes of greater values: what decodes at all is told by just those bytes.
func TestP4_2Damaged(t *testing.T) {
	r := rand.New(rand.NewSource(6))
	for range 20000 {
		b, _ := Encode(chance(r, 4))
		for range 1 + r.Intn(3) {
			b[r.Intn(len(b))] ^= byte(1 << r.Intn(8))
		}
		whole(t, b)
	}
}

func TestRulesArgumentsUnchanged(t *testing.T) {
	r := rand.New(rand.NewSource(7))
	for range 2000 {
		v := chance(r, 3)
		before := some.Clone(v)
		b, _ := Encode(v)
		if !reflect.DeepEqual(v, before) {
			t.Fatalf("Encode made %v of %v", v, before)
		}
		kept := bytes.Clone(b)
		if Decode(b); !bytes.Equal(b, kept) {
			t.Fatalf("Decode made %v of %v", b, kept)
		}
	}
	room := make([]byte, 2, 64) // what stands behind a list isn't a part of it
	copy(room, "\x01\x01")
	if Decode(room); !bytes.Equal(room[:64], append([]byte("\x01\x01"), make([]byte, 62)...)) {
		t.Error("Decode wrote behind its argument")
	}
}

func TestRulesNewMemory(t *testing.T) {
	v := some.Record("a b", some.Set(some.Text("one"), some.Ref("T", "i")), some.Record("c", some.Text("two")))
	first, _ := Encode(v)
	second, _ := Encode(v)
	decoded, e := Decode(first)
	if e != api.OK {
		t.Fatal(e)
	}
	other, _ := Decode(second)
	for i := range first[:cap(first)] {
		first[:cap(first)][i] = 'x'
	}
	if !bytes.Equal(second, laid(v)) {
		t.Error("two answers of Encode share memory")
	}
	if !some.Equal(decoded, v) {
		t.Error("what Decode told changes with the bytes")
	}
	decoded.Items[0].Items[0], decoded.Names[0] = some.Num(1), "z"
	_ = append(decoded.Items[0].Items, some.Num(2))
	_ = append(decoded.Items[1].Items, some.Num(2))
	_ = append(decoded.Items[1].Names, "z")
	if !some.Equal(other, v) || !some.Equal(decoded.Items[1], v.Items[1]) {
		t.Error("lists of Decode's answers share memory")
	}
}
