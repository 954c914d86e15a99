package word_test

import (
	"math"
	"strconv"
	"strings"
	"testing"

	"hurdle/api"
	"hurdle/word"
)

var kinds = []int{api.AddK, api.SubK, api.MulK, api.DivK, api.OrK, api.AndK, api.LshK, api.RshK, api.XorK}

// edges are the numbers at which 32-bit arithmetic may go wrong, and some plain ones between.
var edges = []uint32{
	0, 1, 2, 3, 5, 7, 10, 15, 16, 30, 31, 32, 33, 34, 63, 64, 65, 255, 256, 1000,
	0x7fff, 0x8000, 0xffff, 0x10000, 0x10001, 0x12345678, 0x55555555, 0x7fffffff,
	0x80000000, 0x80000001, 0x80000020, 0xaaaaaaaa, 0xdeadbeef, 0xffffffe0, 0xfffffffe, 0xffffffff,
}

func wantDo(t *testing.T, kind int, a, b, want uint32, wantOK bool) {
	t.Helper()
	if got, ok := word.Do(kind, a, b); got != want || ok != wantOK {
		t.Errorf("Do(%#x, %#x, %#x): %#x, %v; want %#x, %v", kind, a, b, got, ok, want, wantOK)
	}
}

// P1.1: plain inputs, and what wraps round.
func TestDoExamples(t *testing.T) {
	for _, c := range []struct {
		kind       int
		a, b, want uint32
	}{
		{api.AddK, 2, 3, 5},
		{api.AddK, 0xffffffff, 1, 0},
		{api.AddK, 0xffffffff, 0xffffffff, 0xfffffffe},
		{api.AddK, 0x80000000, 0x80000000, 0},
		{api.SubK, 7, 3, 4},
		{api.SubK, 0, 1, 0xffffffff},
		{api.SubK, 1, 0xffffffff, 2},
		{api.SubK, 0, 0x80000000, 0x80000000},
		{api.MulK, 6, 7, 42},
		{api.MulK, 0x10000, 0x10000, 0},
		{api.MulK, 0x10000, 0x10001, 0x10000},
		{api.MulK, 0xffffffff, 0xffffffff, 1},
		{api.MulK, 0x80000000, 2, 0},
		{api.DivK, 7, 2, 3},
		{api.DivK, 6, 2, 3},
		{api.DivK, 2, 7, 0},
		{api.DivK, 0, 5, 0},
		{api.DivK, 0xffffffff, 1, 0xffffffff},
		{api.DivK, 0xffffffff, 2, 0x7fffffff},
		{api.DivK, 0x80000000, 0xffffffff, 0},
		{api.DivK, 0xffffffff, 0x80000000, 1},
		{api.OrK, 6, 3, 7},
		{api.OrK, 0xf0f0f0f0, 0x0f0f0f0f, 0xffffffff},
		{api.AndK, 6, 3, 2},
		{api.AndK, 0xf0f0f0f0, 0x0f0f0f0f, 0},
		{api.XorK, 6, 3, 5},
		{api.XorK, 0xffffffff, 0xffffffff, 0},
		{api.LshK, 3, 4, 0x30},
		{api.LshK, 0xffffffff, 4, 0xfffffff0},
		{api.RshK, 0x30, 4, 3},
		{api.RshK, 0xffffffff, 4, 0x0fffffff},
	} {
		wantDo(t, c.kind, c.a, c.b, c.want, true)
	}
}

// P1.1: a shift counts only the five least significant bits of b.
func TestDoShiftCounts(t *testing.T) {
	for _, c := range []struct{ b, left, right uint32 }{
		{0, 0x80000003, 0x80000003},
		{1, 6, 0x40000001},
		{31, 0x80000000, 1},
		{32, 0x80000003, 0x80000003},
		{33, 6, 0x40000001},
		{63, 0x80000000, 1},
		{64, 0x80000003, 0x80000003},
		{65, 6, 0x40000001},
		{0x100, 0x80000003, 0x80000003},
		{0x80000000, 0x80000003, 0x80000003},
		{0x80000001, 6, 0x40000001},
		{0xffffffe0, 0x80000003, 0x80000003},
		{0xffffffff, 0x80000000, 1},
	} {
		wantDo(t, api.LshK, 0x80000003, c.b, c.left, true)
		wantDo(t, api.RshK, 0x80000003, c.b, c.right, true)
	}
}

// bitwise makes a result bit by bit, by how many of a's and b's bits there are 1.
func bitwise(a, b uint32, bit func(ones uint32) bool) uint32 {
	out := uint32(0)
	for i := range 32 {
		if bit(a>>i&1 + b>>i&1) {
			out |= 1 << i
		}
	}
	return out
}

// expect works the result out in another way than the program: in 64 bits, by steps of one place, bit by bit.
func expect(kind int, a, b uint32) (uint32, bool) {
	const modulus = 1 << 32
	x, y := uint64(a), uint64(b)
	switch kind {
	case api.AddK:
		return uint32((x + y) % modulus), true
	case api.SubK:
		return uint32((x + modulus - y) % modulus), true
	case api.MulK:
		return uint32(x * y % modulus), true
	case api.DivK:
		if b == 0 {
			return 0, false
		}
		return uint32((x - x%y) / y), true
	case api.OrK:
		return bitwise(a, b, func(ones uint32) bool { return ones > 0 }), true
	case api.AndK:
		return bitwise(a, b, func(ones uint32) bool { return ones == 2 }), true
	case api.XorK:
		return bitwise(a, b, func(ones uint32) bool { return ones == 1 }), true
	case api.LshK:
		for range b % 32 {
			x = x * 2 % modulus
		}
		return uint32(x), true
	case api.RshK:
		for range b % 32 {
			x /= 2
		}
		return uint32(x), true
	}
	return 0, false
}

// P1.1: all kinds, over all pairs of edges.
func TestDoAllPairs(t *testing.T) {
	for _, kind := range kinds {
		for _, a := range edges {
			for _, b := range edges {
				want, ok := expect(kind, a, b)
				wantDo(t, kind, a, b, want, ok)
			}
		}
	}
}

// P1.1: there is no quotient by 0.
func TestDoDivideByZero(t *testing.T) {
	for _, a := range edges {
		wantDo(t, api.DivK, a, 0, 0, false)
	}
}

func isKind(kind int) bool {
	for _, k := range kinds {
		if k == kind {
			return true
		}
	}
	return false
}

// P1.1: the other operations are no kinds of arithmetic.
func TestDoOtherOperations(t *testing.T) {
	for _, op := range []int{
		api.LdImm, api.LdxImm, api.St, api.Stx, api.Ja, api.RetK, api.Tax, api.AddX, api.JeqK, api.RetA,
		api.SubX, api.JeqX, api.LdAbs, api.JgtK, api.MulX, api.JgtX, api.JgeK, api.DivX, api.JgeX, api.OrX,
		api.JsetK, api.JsetX, api.AndX, api.LdMem, api.LdxMem, api.LshX, api.RshX, api.Neg, api.Txa, api.XorX,
	} {
		wantDo(t, op, 12, 5, 0, false)
	}
}

// P1.1, P0 (R1): any number may be given as a kind; one whose lower bits are a kind's is none either.
func TestDoNoKind(t *testing.T) {
	for kind := -0x1000; kind <= 0x1000; kind++ {
		if !isKind(kind) {
			wantDo(t, kind, 12, 5, 0, false)
			wantDo(t, kind, 12, 0, 0, false)
		}
	}
	for _, kind := range []int{math.MinInt, math.MinInt + 1, math.MinInt32, math.MaxInt32, math.MaxInt - 1, math.MaxInt} {
		wantDo(t, kind, 12, 5, 0, false)
	}
	for _, k := range kinds {
		for _, kind := range []int{-k, ^k, k + 1<<8, k + 1<<16, k - 1<<8, k + math.MinInt} {
			wantDo(t, kind, 12, 5, 0, false)
		}
		wide := int64(k) + 1<<32
		if kind := int(wide); int64(kind) == wide {
			wantDo(t, kind, 12, 5, 0, false)
		}
	}
}

// P1.1: Neg.
func TestNeg(t *testing.T) {
	for _, c := range []struct{ a, want uint32 }{
		{0, 0}, {1, 0xffffffff}, {0xffffffff, 1}, {2, 0xfffffffe}, {5, 0xfffffffb},
		{0x7fffffff, 0x80000001}, {0x80000000, 0x80000000}, {0x80000001, 0x7fffffff},
	} {
		if got := word.Neg(c.a); got != c.want {
			t.Errorf("Neg(%#x): %#x; want %#x", c.a, got, c.want)
		}
	}
	for _, a := range edges {
		want, _ := expect(api.SubK, 0, a)
		if got := word.Neg(a); got != want {
			t.Errorf("Neg(%#x): %#x; want %#x", a, got, want)
		}
	}
}

func do(t *testing.T, kind int, a, b uint32) uint32 {
	t.Helper()
	v, ok := word.Do(kind, a, b)
	if !ok {
		t.Errorf("Do(%#x, %#x, %#x): false", kind, a, b)
	}
	return v
}

// P1.4: both orders give the same.
func TestCommutative(t *testing.T) {
	for _, kind := range []int{api.AddK, api.MulK, api.OrK, api.AndK, api.XorK} {
		for _, a := range edges {
			for _, b := range edges {
				if x, y := do(t, kind, a, b), do(t, kind, b, a); x != y {
					t.Errorf("kind %#x of %#x and %#x: %#x, but %#x the other way round", kind, a, b, x, y)
				}
			}
		}
	}
}

// P1.4: subtraction reverses addition.
func TestSubtractionReversesAddition(t *testing.T) {
	for _, a := range edges {
		for _, b := range edges {
			if got := do(t, api.SubK, do(t, api.AddK, a, b), b); got != a {
				t.Errorf("%#x and %#x, less %#x: %#x", a, b, b, got)
			}
			if got := do(t, api.AddK, do(t, api.SubK, a, b), b); got != a {
				t.Errorf("%#x less %#x, and %#x: %#x", a, b, b, got)
			}
		}
	}
}

// P1.4: Neg reverses itself, and is the complement and one.
func TestNegConsequences(t *testing.T) {
	for _, a := range edges {
		if got := word.Neg(word.Neg(a)); got != a {
			t.Errorf("Neg(Neg(%#x)): %#x", a, got)
		}
		complement := do(t, api.XorK, a, 0xffffffff)
		if want := do(t, api.AddK, complement, 1); word.Neg(a) != want {
			t.Errorf("Neg(%#x): %#x; the complement and one is %#x", a, word.Neg(a), want)
		}
		if want := do(t, api.SubK, 0, a); word.Neg(a) != want {
			t.Errorf("Neg(%#x): %#x; 0 less it is %#x", a, word.Neg(a), want)
		}
	}
}

// P0 (R4): a call's result does not hang on the calls before it.
func TestCallsAreRepeatable(t *testing.T) {
	type answer struct {
		v      uint32
		ok     bool
		text   string
		n      uint64
		errno  api.Errno
		refuse api.Errno
	}
	ask := func(kind int, a, b uint32) answer {
		var x answer
		x.v, x.ok = word.Do(kind, a, b)
		x.text = word.Text(uint64(word.Neg(a)))
		x.n, x.errno = word.Parse(x.text)
		_, x.refuse = word.Parse("0x0" + strconv.Itoa(int(b%10)))
		return x
	}
	var first []answer
	for round := range 3 {
		i := 0
		for _, kind := range append([]int{-1, api.AddX}, kinds...) {
			for _, a := range edges {
				for _, b := range edges {
					x := ask(kind, a, b)
					if round == 0 {
						first = append(first, x)
					} else if x != first[i] {
						t.Fatalf("kind %#x, %#x, %#x: %+v, before %+v", kind, a, b, x, first[i])
					}
					i++
				}
			}
		}
	}
}

// texts are numbers and their texts: 0, one digit, every digit, and the edges of 32 and of 64 bits.
var texts = []struct {
	n uint64
	s string
}{
	{0, "0x0"}, {1, "0x1"}, {9, "0x9"}, {10, "0xa"}, {15, "0xf"},
	{16, "0x10"}, {0xff, "0xff"}, {0x100, "0x100"}, {0x1000, "0x1000"},
	{0x7fff0000, "0x7fff0000"}, {0xffffffff, "0xffffffff"}, {0x100000000, "0x100000000"},
	{0x123456789abcdef, "0x123456789abcdef"}, {0xfedcba9876543210, "0xfedcba9876543210"},
	{0xfffffffffffffff, "0xfffffffffffffff"}, {0x1000000000000000, "0x1000000000000000"},
	{math.MaxInt64, "0x7fffffffffffffff"}, {1 << 63, "0x8000000000000000"},
	{math.MaxUint64 - 1, "0xfffffffffffffffe"}, {math.MaxUint64, "0xffffffffffffffff"},
}

// P1.2: Text, and Parse of such texts.
func TestTextAndParse(t *testing.T) {
	for _, c := range texts {
		if got := word.Text(c.n); got != c.s {
			t.Errorf("Text(%d): %q; want %q", c.n, got, c.s)
		}
		if got, e := word.Parse(c.s); got != c.n || e != api.OK {
			t.Errorf("Parse(%q): %#x, %d; want %#x", c.s, got, e, c.n)
		}
	}
}

// P1.2, P0 (R1, R2): texts that no number has; beside ErrForm the number is 0.
func TestParseRefuses(t *testing.T) {
	for _, s := range []string{
		"", "0", "x", "0x", "x0", "00", "0 ", "0xx", "00x1", "00x", "1x1", "x01",
		"0x00", "0x01", "0x0a", "0x000", "0x0f00", "0x0000000000000000", "0x00000000000000000", "0x0ffffffffffffffff",
		"0X1", "0X", "0XFF", "0xA", "0xF", "0xFF", "0xfF", "0xFf", "0x1A", "0xaBc",
		"1", "12", "ff", "255", "$ff", "#ff", "ffh", "0b1", "0o7", "\\x1",
		"0x10000000000000000", "0x1ffffffffffffffff", "0xfffffffffffffffff", "0xffffffffffffffffg", "0x123456789abcdef01",
		"0x" + strings.Repeat("f", 1000), "0x1" + strings.Repeat("0", 32), "0x1" + strings.Repeat("0", 16), "0x" + strings.Repeat("0", 1000),
		"0xg", "0xG", "0x/", "0x:", "0x`", "0x@", "0x1g", "0x1 ", " 0x1", "0x 1", "0x1\n", "\n0x1", "\t0x1", "0x1\x00", "\x000x1", "0x\x00",
		"-0x1", "+0x1", "0x-1", "0x+1", "0x1_0", "0x_1", "0x1.0", "0x1p3", "0x1,0", "0x1 0x1", "0x0x1", "0x1,0x2",
		"0xé", "é", "éx1", "0é1", "0x1é", "0x٣", "0x１", "０x1", "0ｘ1", "0xａ", "0x\u0130", "日本語", "0x😀", "0x1😀", "\ufeff0x1", "0x\ufffd", "0\u0301x1",
		"0x\xff", "\xff", "\xff\xff\xff", "0\xff1", "\xffx1", "0x1\xff", "0x1\xc3", "0x\xe2\x82", "0x\xc0\xb1", "0x\xed\xa0\x80", "0x\xf8\x88\x80\x80\x80",
		"0x\x801", "0x\xb1", "\xb0x1", "0\xf81",
	} {
		if n, e := word.Parse(s); n != 0 || e != api.ErrForm {
			t.Errorf("Parse(%q): %#x, %d; want 0, ErrForm", s, n, e)
		}
	}
}

// P1.2: every single byte, and every rune up to U+2FFFF, in each place of a text.
func TestParseEveryRune(t *testing.T) {
	check := func(s string, want uint64, ok bool) {
		t.Helper()
		errno := api.OK
		if !ok {
			want, errno = 0, api.ErrForm
		}
		if n, e := word.Parse(s); n != want || e != errno {
			t.Errorf("Parse(%q): %#x, %d; want %#x, %d", s, n, e, want, errno)
		}
	}
	everyPlace := func(c string) {
		d := strings.Index("0123456789abcdef", c)
		digit := d >= 0
		check("0x"+c, uint64(d), digit)
		check("0x1"+c, 16+uint64(d), digit)
		check("0x"+c+"1", 16*uint64(d)+1, d > 0)
		check(c+"x1", 1, c == "0")
		check("0"+c+"1", 1, c == "x")
		// A rune of several bytes may reach over the whole of 0x.
		check(c, 0, false)
		check(c+"1", 0, false)
		check("0"+c, 0, false)
	}
	for c := range 256 {
		everyPlace(string([]byte{byte(c)}))
	}
	for r := rune(128); r <= 0x2ffff; r++ {
		everyPlace(string(r))
	}
}

// numbers calls f with numbers of every length, among them all of a few digits.
func numbers(f func(n uint64)) {
	for n := range uint64(0x12000) {
		f(n)
	}
	for place := range 64 {
		for near := range uint64(5) {
			f(uint64(1)<<place + near - 2)
			f(math.MaxUint64>>place - near)
			f((near*2 + 1) * 0x123456789abcdef >> place)
		}
	}
	for _, c := range texts {
		f(c.n)
	}
}

// P1.2: what Text gives is of the right form.
func TestTextForm(t *testing.T) {
	numbers(func(n uint64) {
		s := word.Text(n)
		digits, ok := strings.CutPrefix(s, "0x")
		if !ok || digits == "" || len(digits) > 16 {
			t.Errorf("Text(%d): %q", n, s)
		}
		if strings.Trim(digits, "0123456789abcdef") != "" || digits[0] == '0' && n != 0 {
			t.Errorf("Text(%d): %q", n, s)
		}
		if v, err := strconv.ParseUint(digits, 16, 64); v != n || err != nil {
			t.Errorf("Text(%d): %q", n, s)
		}
	})
}

// P1.3: Parse reverses Text.
func TestParseReversesText(t *testing.T) {
	numbers(func(n uint64) {
		s := word.Text(n)
		if got, e := word.Parse(s); got != n || e != api.OK {
			t.Errorf("Parse(Text(%d)), of %q: %d, %d", n, s, got, e)
		}
	})
}

// eachText calls f with every text of at most most letters.
func eachText(letters string, most int, f func(s string)) {
	var grow func(s string)
	grow = func(s string) {
		f(s)
		if len(s) == most {
			return
		}
		for _, c := range letters {
			grow(s + string(c))
		}
	}
	grow("")
}

// P1.3: Text reverses Parse where a text is read, and just the texts of numbers are read.
func TestTextReversesParse(t *testing.T) {
	read := 0
	check := func(s string) {
		n, e := word.Parse(s)
		isText := len(s) > 2 && s[:2] == "0x" && (s == "0x0" || s[2] != '0') && strings.Trim(s[2:], "0123456789abcdef") == ""
		switch {
		case e == api.OK && word.Text(n) != s:
			t.Errorf("Text(Parse(%q)): %q", s, word.Text(n))
		case e == api.OK != isText || !isText && (n != 0 || e != api.ErrForm):
			t.Errorf("Parse(%q): %d, %d", s, n, e)
		}
		if e == api.OK {
			read++
		}
	}
	eachText("0x19afAgX", 6, check)
	eachText("0123456789abcdefgABCDEFGxX_ -", 3, func(s string) { check("0x" + s) })
	if read == 0 {
		t.Error("no text was read")
	}
}

// FuzzParse holds Parse against the library's reading, on any bytes.
func FuzzParse(f *testing.F) {
	for _, c := range texts {
		f.Add(c.s)
		f.Add(c.s + "0")
		f.Add("0x0" + c.s[2:])
		f.Add(strings.ToUpper(c.s))
	}
	f.Add("")
	f.Add("0x\xff")
	f.Fuzz(func(t *testing.T, s string) {
		want, errno := uint64(0), api.ErrForm
		if digits, ok := strings.CutPrefix(s, "0x"); ok {
			if v, err := strconv.ParseUint(digits, 16, 64); err == nil && strconv.FormatUint(v, 16) == digits {
				want, errno = v, api.OK
			}
		}
		if n, e := word.Parse(s); n != want || e != errno {
			t.Errorf("Parse(%q): %#x, %d; want %#x, %d", s, n, e, want, errno)
		}
	})
}
