package ints

import (
	"math"
	"math/big"
	"strings"
	"testing"

	"chamberlain/api"
)

const (
	low  = math.MinInt64
	high = math.MaxInt64
)

// edges are the numbers at which something may go over, and ordinary ones.
func edges() []int64 {
	l := []int64{
		low, low + 1, low + 2, low / 2, low/2 - 1, low/2 + 1, low / 3, low / 10,
		high, high - 1, high - 2, high / 2, high/2 + 1, high/2 + 2, high / 3, high / 10,
		3037000499, 3037000500, -3037000499, -3037000500, // beside the root of 2^63
		math.MaxInt32, math.MaxInt32 + 1, math.MinInt32, math.MinInt32 - 1, math.MaxUint32, math.MaxUint32 + 1,
	}
	for i := int64(-12); i <= 12; i++ {
		l = append(l, i)
	}
	for ten := int64(10); ; ten *= 10 {
		l = append(l, ten, ten-1, -ten, 1-ten)
		if ten > high/10 {
			return l
		}
	}
}

// spread are numbers of all sizes, the same ones each time.
func spread(n int) []int64 {
	var l []int64
	x := uint64(88172645463325252)
	for i := range n {
		x ^= x << 13
		x ^= x >> 7
		x ^= x << 17
		l = append(l, int64(x)>>(i%64))
	}
	return l
}

// want is the answer for a number, however great.
func want(x *big.Int) (int64, api.Errno) {
	if !x.IsInt64() {
		return 0, api.ErrRange
	}
	return x.Int64(), api.OK
}

func TestP1_1Table(t *testing.T) {
	for _, c := range []struct {
		name string
		f    func(a, b int64) (int64, api.Errno)
		a, b int64
		x    int64
		e    api.Errno
	}{
		{"Add", Add, 2, 3, 5, api.OK},
		{"Add", Add, -7, 7, 0, api.OK},
		{"Add", Add, high, low, -1, api.OK},
		{"Add", Add, high - 1, 1, high, api.OK},
		{"Add", Add, high, 1, 0, api.ErrRange},
		{"Add", Add, high, high, 0, api.ErrRange},
		{"Add", Add, low + 1, -1, low, api.OK},
		{"Add", Add, low, -1, 0, api.ErrRange},
		{"Add", Add, low, low, 0, api.ErrRange},
		{"Sub", Sub, 2, 3, -1, api.OK},
		{"Sub", Sub, -1, low, high, api.OK},
		{"Sub", Sub, 0, low, 0, api.ErrRange},
		{"Sub", Sub, 0, high, -high, api.OK},
		{"Sub", Sub, low, low, 0, api.OK},
		{"Sub", Sub, low, 1, 0, api.ErrRange},
		{"Sub", Sub, low, -1, low + 1, api.OK},
		{"Sub", Sub, high, -1, 0, api.ErrRange},
		{"Sub", Sub, -2, high, 0, api.ErrRange},
		{"Sub", Sub, -1, high, low, api.OK},
		{"Mul", Mul, -3, 4, -12, api.OK},
		{"Mul", Mul, -3, -4, 12, api.OK},
		{"Mul", Mul, 0, low, 0, api.OK},
		{"Mul", Mul, 1, low, low, api.OK},
		{"Mul", Mul, -1, low, 0, api.ErrRange},
		{"Mul", Mul, low, -1, 0, api.ErrRange},
		{"Mul", Mul, -1, high, -high, api.OK},
		{"Mul", Mul, -1 << 62, 2, low, api.OK},
		{"Mul", Mul, 1 << 62, -2, low, api.OK},
		{"Mul", Mul, 1 << 62, 2, 0, api.ErrRange},
		{"Mul", Mul, -1 << 62, -2, 0, api.ErrRange},
		{"Mul", Mul, low, low, 0, api.ErrRange},
		{"Mul", Mul, 1 << 32, 1 << 32, 0, api.ErrRange},
		{"Mul", Mul, 3037000499, 3037000499, 9223372030926249001, api.OK},
		{"Mul", Mul, 3037000500, 3037000500, 0, api.ErrRange},
	} {
		if x, e := c.f(c.a, c.b); x != c.x || e != c.e {
			t.Errorf("%s(%d, %d): %d, %d; not %d, %d", c.name, c.a, c.b, x, e, c.x, c.e)
		}
	}
}

func TestP1_1Pairs(t *testing.T) {
	l := append(edges(), spread(400)...)
	for _, a := range l {
		for _, b := range l {
			checkPair(t, a, b)
		}
	}
}

func checkPair(t *testing.T, a, b int64) {
	t.Helper()
	p, q := big.NewInt(a), big.NewInt(b)
	x, e := want(new(big.Int).Add(p, q))
	if y, f := Add(a, b); x != y || e != f {
		t.Errorf("Add(%d, %d): %d, %d; not %d, %d", a, b, y, f, x, e)
	}
	x, e = want(new(big.Int).Sub(p, q))
	if y, f := Sub(a, b); x != y || e != f {
		t.Errorf("Sub(%d, %d): %d, %d; not %d, %d", a, b, y, f, x, e)
	}
	x, e = want(new(big.Int).Mul(p, q))
	if y, f := Mul(a, b); x != y || e != f {
		t.Errorf("Mul(%d, %d): %d, %d; not %d, %d", a, b, y, f, x, e)
	}
}

func TestP1_1Neg(t *testing.T) {
	for _, a := range append(edges(), spread(400)...) {
		x, e := want(new(big.Int).Neg(big.NewInt(a)))
		if y, f := Neg(a); x != y || e != f {
			t.Errorf("Neg(%d): %d, %d; not %d, %d", a, y, f, x, e)
		}
	}
	if x, e := Neg(low); x != 0 || e != api.ErrRange {
		t.Error(x, e)
	}
	if x, e := Neg(high); x != -high || e != api.OK {
		t.Error(x, e)
	}
}

func TestP1_2Show(t *testing.T) {
	for _, c := range []struct {
		a int64
		s string
	}{
		{0, "0"}, {7, "7"}, {-7, "-7"}, {10, "10"}, {-70, "-70"}, {1000, "1000"}, {12345, "12345"},
		{high, "9223372036854775807"}, {high - 1, "9223372036854775806"},
		{low, "-9223372036854775808"}, {low + 1, "-9223372036854775807"},
		{1000000000000000000, "1000000000000000000"}, {-1000000000000000000, "-1000000000000000000"},
	} {
		if s := Show(c.a); s != c.s {
			t.Errorf("Show(%d): %q", c.a, s)
		}
	}
	for _, a := range append(edges(), spread(2000)...) {
		if s := Show(a); s != big.NewInt(a).String() {
			t.Errorf("Show(%d): %q", a, s)
		}
	}
}

func TestP1_2Read(t *testing.T) {
	for _, c := range []struct {
		s string
		x int64
	}{
		{"0", 0}, {"7", 7}, {"-7", -7}, {"10", 10}, {"-10", -10}, {"90", 90}, {"12345", 12345},
		{"9223372036854775807", high}, {"-9223372036854775807", -high}, {"-9223372036854775808", low},
	} {
		if x, e := Read(c.s); x != c.x || e != api.OK {
			t.Errorf("Read(%q): %d, %d", c.s, x, e)
		}
	}
}

func TestP1_2ReadRange(t *testing.T) {
	noughts := strings.Repeat("0", 100000)
	for _, s := range []string{
		"9223372036854775808", "-9223372036854775809", "9223372036854775810", "10000000000000000000", "-10000000000000000000",
		"18446744073709551615", "18446744073709551616", "18446744073709551617", "18446744073709551620", "-18446744073709551616",
		"-18446744073709551617", "99999999999999999999", "-99999999999999999999", "36893488147419103232", "100000000000000000000",
		"340282366920938463463374607431768211456", "340282366920938463463374607431768211457", "-340282366920938463463374607431768211457",
		"1" + noughts, "-1" + noughts, "1" + noughts + "1", strings.Repeat("9", 100000),
	} {
		if x, e := Read(s); x != 0 || e != api.ErrRange {
			t.Errorf("Read(%.50q): %d, %d", s, x, e)
		}
	}
}

func TestP1_2ReadForm(t *testing.T) {
	nines := strings.Repeat("9", 1000)
	for _, s := range []string{
		"", "-", "--", "+", "-0", "+0", "00", "-00", "007", "-007", "01", "-01", "+7", "--7", "- 7", "7-", "1-2", "-1-",
		" ", " 7", "7 ", "7\n", "\n7", "7\x00", "\x007", "1_000", "1,000", "1.0", ".5", "1e3", "0x10", "0b1", "0o7", "a", "1a", "a1", "-a",
		"/", ":", "1/", "1:", "\xff", "1\xff", "\u0661", "\uff11", "\u22121", "Inf", "-Inf", "NaN", "nil",
		"09223372036854775807", "-09223372036854775808", "0" + nines, "-0" + nines, // a number's size doesn't matter, if its form is none
		nines + "a", "a" + nines, nines + " ", "-" + nines + "-", "+" + nines, "--" + nines, nines + "." + nines,
		strings.Repeat("0", 100000),
	} {
		if x, e := Read(s); x != 0 || e != api.ErrForm {
			t.Errorf("Read(%.50q): %d, %d", s, x, e)
		}
	}
}

func TestP1_2ReadBytes(t *testing.T) {
	for i := range 256 {
		c := byte(i)
		x, e := int64(0), api.ErrForm
		if c >= '0' && c <= '9' {
			x, e = int64(c-'0'), api.OK
		}
		if y, f := Read(string([]byte{c})); x != y || e != f {
			t.Errorf("Read of byte %d: %d, %d", c, y, f)
		}
		if e == api.OK {
			x += 10
		}
		if y, f := Read(string([]byte{'1', c})); x != y || e != f {
			t.Errorf("Read of 1 and byte %d: %d, %d", c, y, f)
		}
	}
}

// TestP1_2ReadShort reads all texts of up to five bytes of a few: just those that are some number's Show are numbers.
func TestP1_2ReadShort(t *testing.T) {
	shows := map[string]int64{}
	for a := int64(-9999); a <= 99999; a++ {
		shows[big.NewInt(a).String()] = a
	}
	texts := []string{""}
	for n := 0; n < len(texts); n++ {
		s := texts[n]
		x, ok := shows[s]
		if y, e := Read(s); y != x || ok != (e == api.OK) || !ok && e != api.ErrForm {
			t.Errorf("Read(%q): %d, %d", s, y, e)
		}
		for _, c := range "-+0179 a" {
			if len(s) < 5 {
				texts = append(texts, s+string(c))
			}
		}
	}
}

// TestP1_2ReadBeside reads numbers of which some go over.
func TestP1_2ReadBeside(t *testing.T) {
	for _, bits := range []uint{62, 63, 64, 65, 66, 67, 128} {
		middle := new(big.Int).Lsh(big.NewInt(1), bits)
		for i := int64(-300); i <= 300; i++ {
			p := new(big.Int).Add(middle, big.NewInt(i))
			for _, q := range []*big.Int{p, new(big.Int).Neg(p)} {
				x, e := want(q)
				if y, f := Read(q.String()); x != y || e != f {
					t.Errorf("Read(%q): %d, %d; not %d, %d", q.String(), y, f, x, e)
				}
			}
		}
	}
}

func TestP1_3ShownIsRead(t *testing.T) {
	for _, a := range append(edges(), spread(5000)...) {
		if x, e := Read(Show(a)); x != a || e != api.OK {
			t.Errorf("%d is shown as %q, read as %d, %d", a, Show(a), x, e)
		}
	}
}

func TestP1_3TurnedRound(t *testing.T) {
	l := append(edges(), spread(200)...)
	for _, a := range l {
		for _, b := range l {
			checkRound(t, a, b)
		}
	}
}

func checkRound(t *testing.T, a, b int64) {
	t.Helper()
	x, e := Add(a, b)
	if y, f := Add(b, a); x != y || e != f {
		t.Errorf("Add of %d, %d: %d, %d; turned round %d, %d", a, b, x, e, y, f)
	}
	if e == api.OK {
		if y, f := Sub(x, b); y != a || f != api.OK {
			t.Errorf("%d less %d: %d, %d; not %d", x, b, y, f, a)
		}
	}
	x, e = Mul(a, b)
	if y, f := Mul(b, a); x != y || e != f {
		t.Errorf("Mul of %d, %d: %d, %d; turned round %d, %d", a, b, x, e, y, f)
	}
}
