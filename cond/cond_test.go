package cond_test

import (
	"math"
	"regexp"
	"strconv"
	"strings"
	"testing"

	"hurdle/api"
	"hurdle/cond"
	"hurdle/word"
)

// comparisons tells, for each number, the word, the orders of the masked argument and the value (less -1, equal 0,
// greater 1) at which it holds, and the number that Not exchanges it with. It is written out from the document's words.
var comparisons = []struct {
	cmp    int
	word   string
	orders []int
	not    int
}{
	{0, "eq", []int{0}, 1},
	{1, "ne", []int{-1, 1}, 0},
	{2, "lt", []int{-1}, 5},
	{3, "le", []int{-1, 0}, 4},
	{4, "gt", []int{1}, 3},
	{5, "ge", []int{0, 1}, 2},
}

const arguments = 6

var (
	// edges are numbers at which one of 64 bits may go wrong: signs, halves, single bits.
	edges = []uint64{
		0, 1, 2, 5, 0x7f, 0x80, 0xff, 0x100, 0x105, 0x7fff, 0xffff, 0x10000, 0x7fffffff, 0x80000000, 0x80000001, 0xfffffffe, 0xffffffff,
		0x100000000, 0x100000001, 0x1ffffffff, 0x20000000000000, 0x20000000000001, 0x5555555555555555, 0xaaaaaaaaaaaaaaaa, 0x123456789abcdef0, 0xdeadbeefcafef00d,
		0x7fffffff00000000, 0x7fffffffffffffff, 0x8000000000000000, 0x8000000000000001, 0xffffffff00000000, 0xffffffff7fffffff, 0xfffffffffffffffe, 0xffffffffffffffff,
	}

	// none are numbers that neither an argument nor a comparison has; most would be one's if they were cut to fewer bits.
	none = []int{
		-1, -2, -3, -5, -6, -256, -251, 6, 7, 8, 9, 10, 16, 32, 64, 127, 128, 255, 256, 257, 260, 261, 0x10000, 0x10003, -0x10000, -0xfffb, 1 << 31, 1<<31 + 2,
		math.MinInt32, math.MaxInt32, 1 << 32, 1<<32 + 1, 1<<32 + 5, -1 << 32, -1<<32 + 4, math.MinInt, math.MinInt + 1, math.MinInt + 5, math.MaxInt - 1, math.MaxInt, '0', '5', 'a',
	}
)

// numbers answers numbers that look mixed, the same for each seed.
func numbers(seed int) func() uint64 {
	n := uint64(seed)*2 + 1
	return func() uint64 {
		n = n*6364136223846793005 + 1442695040888963407
		return n>>32 ^ n<<31
	}
}

// record answers one with n as an argument, and what differs from n everywhere else.
func record(arg int, n uint64) api.Data {
	d := api.Data{Nr: uint32(n) ^ 1, Arch: uint32(n) ^ 2, Ip: ^n}
	for i := range d.Args {
		d.Args[i] = ^n
	}
	d.Args[arg] = n
	return d
}

// order holds two numbers against each other bit by bit, the most significant one first; of a only those bits count
// that the mask has.
func order(a, mask, value uint64) int {
	for bit := 63; bit >= 0; bit-- {
		one := a>>bit%2 == 1 && mask>>bit%2 == 1
		if other := value>>bit%2 == 1; one != other {
			if one {
				return 1
			}
			return -1
		}
	}
	return 0
}

// wantHolds holds Holds against the order in which the masked argument and the value are.
func wantHolds(t *testing.T, c api.Cond, n uint64) {
	t.Helper()
	d := record(c.Arg, n)
	want := false
	for _, o := range comparisons[c.Cmp].orders {
		want = want || o == order(n, c.Mask, c.Value)
	}
	if got := cond.Holds(c, d); got != want {
		t.Errorf("Holds(%+v, %#x): %v; want %v", c, n, got, want)
	}
	if got := cond.Holds(cond.Not(c), d); got == want {
		t.Errorf("Holds(Not(%+v), %#x): %v; want %v", c, n, got, !want)
	}
}

// text answers a condition's text in another way than the program.
func text(c api.Cond) string {
	return "a" + strconv.Itoa(c.Arg) + " 0x" + strconv.FormatUint(c.Mask, 16) + " " + comparisons[c.Cmp].word + " 0x" + strconv.FormatUint(c.Value, 16)
}

// wantValid holds Right, Print, Parse and Not against what they must answer for a valid condition.
func wantValid(t *testing.T, c api.Cond, s string) {
	t.Helper()
	if !cond.Right(c) {
		t.Errorf("Right(%+v): false", c)
	}
	if got, e := cond.Print(c); got != s || e != api.OK {
		t.Errorf("Print(%+v): %q, %d; want %q", c, got, e, s)
	}
	if got, e := cond.Parse(s); got != c || e != api.OK {
		t.Errorf("Parse(%q): %+v, %d; want %+v", s, got, e, c)
	}
	not := c
	not.Cmp = comparisons[c.Cmp].not
	if got := cond.Not(c); got != not {
		t.Errorf("Not(%+v): %+v; want %+v", c, got, not)
	}
	if got := cond.Not(cond.Not(c)); got != c {
		t.Errorf("Not(Not(%+v)): %+v", c, got)
	}
}

// wantInvalid: a condition that is not valid has no text, holds for no record, and is its own Not.
func wantInvalid(t *testing.T, c api.Cond) {
	t.Helper()
	if cond.Right(c) {
		t.Errorf("Right(%+v): true", c)
	}
	if s, e := cond.Print(c); s != "" || e != api.ErrArg {
		t.Errorf("Print(%+v): %q, %d; want the empty text, ErrArg", c, s, e)
	}
	if got := cond.Not(c); got != c {
		t.Errorf("Not(%+v): %+v; want it unchanged", c, got)
	}
	for _, n := range []uint64{0, 1, c.Value, ^c.Value, c.Mask, math.MaxUint64} {
		if cond.Holds(c, api.Data{Args: [arguments]uint64{n, n, n, n, n, n}}) {
			t.Errorf("Holds(%+v, %#x): true", c, n)
		}
	}
}

func wantNoText(t *testing.T, s string) {
	t.Helper()
	if c, e := cond.Parse(s); c != (api.Cond{}) || e != api.ErrForm {
		t.Errorf("Parse(%q): %+v, %d; want the zero condition, ErrForm", s, c, e)
	}
}

// each calls f with valid conditions: every argument and comparison, masks and values at their edges.
func each(f func(c api.Cond)) {
	for arg := range arguments {
		for _, by := range comparisons {
			for _, mask := range edges {
				for _, value := range edges {
					f(api.Cond{Arg: arg, Cmp: by.cmp, Mask: mask, Value: value})
				}
			}
		}
	}
}

// P8.1, P8.2: the numbers of the comparisons and of the errors are the document's.
func TestNumbers(t *testing.T) {
	for at, cmp := range []int{api.Eq, api.Ne, api.Lt, api.Le, api.Gt, api.Ge} {
		if cmp != at || comparisons[at].cmp != at {
			t.Errorf("comparison %d: %d", at, cmp)
		}
	}
	for at, e := range []api.Errno{api.OK, api.ErrArg, api.ErrForm} {
		if int(e) != at {
			t.Errorf("error %d: %d", at, e)
		}
	}
}

// P8.1, P8.2: the example of the chapter, and the fifth one of the whole document.
func TestExample(t *testing.T) {
	c := api.Cond{Arg: 0, Cmp: 0, Mask: 0xff, Value: 5}
	wantValid(t, c, "a0 0xff eq 0x5")
	if s, e := cond.Print(cond.Not(c)); s != "a0 0xff ne 0x5" || e != 0 {
		t.Errorf("Print of Not: %q, %d", s, e)
	}
	for n, want := range map[uint64]bool{5: true, 0x105: true, 0x8000000000000005: true, 6: false, 0x500: false, 0xff: false, 0: false} {
		if got := cond.Holds(c, record(0, n)); got != want {
			t.Errorf("Holds for %#x: %v", n, got)
		}
		if got := cond.Holds(cond.Not(c), record(0, n)); got == want {
			t.Errorf("its Not holds for %#x: %v", n, got)
		}
	}
}

// P8.1: each comparison with what is less, equal and greater; numbers have no sign, and the value is not masked.
func TestHoldsExamples(t *testing.T) {
	const all = math.MaxUint64
	for _, c := range []struct {
		n, mask, value         uint64
		eq, ne, lt, le, gt, ge bool
	}{
		{n: 4, mask: all, value: 5, ne: true, lt: true, le: true},
		{n: 5, mask: all, value: 5, eq: true, le: true, ge: true},
		{n: 6, mask: all, value: 5, ne: true, gt: true, ge: true},
		{n: all, mask: all, value: 0, ne: true, gt: true, ge: true},
		{n: 1 << 63, mask: all, value: 1, ne: true, gt: true, ge: true},
		{n: 0, mask: all, value: all, ne: true, lt: true, le: true},
		{n: 1 << 32, mask: all, value: 0xffffffff, ne: true, gt: true, ge: true},
		{n: 1<<32 + 1, mask: all, value: 2 << 32, ne: true, lt: true, le: true},
		{n: 1<<53 + 1, mask: all, value: 1 << 53, ne: true, gt: true, ge: true},
		{n: 1<<32 + 7, mask: 0xffffffff, value: 7, eq: true, le: true, ge: true},
		{n: 0xffffffff, mask: 0xffffffff00000000, value: 0, eq: true, le: true, ge: true},
		{n: 0x105, mask: 0xff, value: 0x105, ne: true, lt: true, le: true},
		{n: all, mask: 0, value: 0, eq: true, le: true, ge: true},
		{n: all, mask: 0, value: 1, ne: true, lt: true, le: true},
	} {
		for cmp, want := range []bool{c.eq, c.ne, c.lt, c.le, c.gt, c.ge} {
			for arg := range arguments {
				x := api.Cond{Arg: arg, Cmp: cmp, Mask: c.mask, Value: c.value}
				if got := cond.Holds(x, record(arg, c.n)); got != want {
					t.Errorf("Holds(%s, %#x): %v", text(x), c.n, got)
				}
			}
		}
	}
}

// P8.1, P8.2, P8.3: every argument and comparison, masks and values at their edges.
func TestEveryCondition(t *testing.T) {
	each(func(c api.Cond) { wantValid(t, c, text(c)) })
}

// P8.1: conditions against arguments at their edges, and just beside the mask and the value.
func TestHolds(t *testing.T) {
	each(func(c api.Cond) {
		for _, n := range []uint64{c.Value, c.Value - 1, c.Value + 1, ^c.Value, c.Value & c.Mask, c.Value | ^c.Mask, c.Mask, ^c.Mask} {
			wantHolds(t, c, n)
		}
	})
	for _, by := range comparisons {
		for at, n := range edges {
			for _, mask := range edges {
				for _, value := range edges {
					wantHolds(t, api.Cond{Arg: at % arguments, Cmp: by.cmp, Mask: mask, Value: value}, n)
				}
			}
		}
	}
}

// P8.1: single bits: each one counts only where the mask has it.
func TestHoldsEachBit(t *testing.T) {
	for bit := range 64 {
		for maskBit := range 64 {
			for _, by := range comparisons {
				for _, value := range []uint64{0, 1 << bit, 1<<bit - 1, 1<<bit + 1} {
					wantHolds(t, api.Cond{Arg: bit % arguments, Cmp: by.cmp, Mask: 1 << maskBit, Value: value}, 1<<bit)
					wantHolds(t, api.Cond{Arg: bit % arguments, Cmp: by.cmp, Mask: ^uint64(1 << maskBit), Value: value}, 1<<bit)
				}
			}
		}
	}
}

// P8.1, P8.2, P0 (R1, R2): an argument or a comparison that is none.
func TestInvalid(t *testing.T) {
	for _, n := range none {
		for at := range 6 {
			for _, mask := range []uint64{0, 0xff, math.MaxUint64} {
				wantInvalid(t, api.Cond{Arg: n, Cmp: at, Mask: mask, Value: 5})
				wantInvalid(t, api.Cond{Arg: at, Cmp: n, Mask: mask})
			}
		}
		for _, m := range none {
			wantInvalid(t, api.Cond{Arg: n, Cmp: m, Mask: math.MaxUint64, Value: 1})
		}
	}
	for n := 6; n <= 0x1000; n++ {
		wantInvalid(t, api.Cond{Arg: n, Mask: math.MaxUint64})
		wantInvalid(t, api.Cond{Cmp: n, Mask: math.MaxUint64})
		wantInvalid(t, api.Cond{Arg: 5 - n, Mask: math.MaxUint64})
		wantInvalid(t, api.Cond{Cmp: 5 - n, Mask: math.MaxUint64})
	}
}

// P8.2, P0 (R1, R2): texts that no condition has.
func TestParseRefuses(t *testing.T) {
	for _, s := range []string{
		"", " ", "  ", "   ", "    ", "     ", "\n", "a", "0", "a0", "eq", "0x0", "a0 ", "a0 0x1", "a0 0x1 ", "a0 0x1 eq", "a0 0x1 eq ", "a0  eq 0x1", "a0 0x1  0x1", " 0x1 eq 0x1",
		"a6 0x1 eq 0x1", "a7 0x1 eq 0x1", "a9 0x1 eq 0x1", "a: 0x1 eq 0x1", "a/ 0x1 eq 0x1", "a10 0x1 eq 0x1", "a00 0x1 eq 0x1", "a01 0x1 eq 0x1", "a-1 0x1 eq 0x1", "a-0 0x1 eq 0x1", "a+0 0x1 eq 0x1", "a0x0 0x1 eq 0x1", "a256 0x1 eq 0x1",
		"0 0x1 eq 0x1", "A0 0x1 eq 0x1", "b0 0x1 eq 0x1", "a 0x1 eq 0x1", "aa 0x1 eq 0x1", "a0a 0x1 eq 0x1", "arg0 0x1 eq 0x1", "a 0 0x1 eq 0x1", "0a 0x1 eq 0x1", "0x0 0x1 eq 0x1",
		"a0 1 eq 0x1", "a0 0x eq 0x1", "a0 0x01 eq 0x1", "a0 0x00 eq 0x1", "a0 0xFF eq 0x1", "a0 0X1 eq 0x1", "a0 -0x1 eq 0x1", "a0 0xg eq 0x1", "a0 0x10000000000000000 eq 0x1", "a0 0xfffffffffffffffff eq 0x1", "a0 ff eq 0x1",
		"a0 0x1 eq 1", "a0 0x1 eq 0x", "a0 0x1 eq 0x01", "a0 0x1 eq 0x00", "a0 0x1 eq 0xFF", "a0 0x1 eq 0X1", "a0 0x1 eq -0x1", "a0 0x1 eq 0xg", "a0 0x1 eq 0x10000000000000000", "a0 0x1 eq 0xfffffffffffffffff", "a0 0x1 eq ff",
		"a0 0x1 == 0x1", "a0 0x1 = 0x1", "a0 0x1 != 0x1", "a0 0x1 < 0x1", "a0 0x1 <= 0x1", "a0 0x1 EQ 0x1", "a0 0x1 Eq 0x1", "a0 0x1 e 0x1", "a0 0x1 eqq 0x1", "a0 0x1 q 0x1", "a0 0x1 neq 0x1", "a0 0x1 leq 0x1", "a0 0x1 g 0x1", "a0 0x1 l 0x1", "a0 0x1 0 0x1", "a0 0x1 is 0x1", "a0 0x1 0x0 0x1", "a0 0x1 eqne 0x1", "a0 0x1 ee 0x1", "a0 0x1 ln 0x1", "a0 0x1 gq 0x1", "a0 0x1 eq, 0x1",
		"a0 0x1 eq 0x1 ", " a0 0x1 eq 0x1", "a0  0x1 eq 0x1", "a0 0x1  eq 0x1", "a0 0x1 eq  0x1", "a0 0x1 eq 0x1  ", "a0 0x1 eq 0x1 0x1", "a0 0x1 eq 0x1 and", "a0 0x1 eq 0x1 a0 0x1 eq 0x1", "if a0 0x1 eq 0x1", "and a0 0x1 eq 0x1", "a0 a0 0x1 eq 0x1",
		"0x1 a0 eq 0x1", "a0 eq 0x1 0x1", "a0 0x1 0x1 eq", "eq a0 0x1 0x1", "a0 eq 0x1", "a0 0x1 0x1",
		"a0\t0x1\teq\t0x1", "a0\n0x1 eq 0x1", "a0 0x1\neq 0x1", "a0 0x1 eq\n0x1", "a0 0x1 eq 0x1\n", "\na0 0x1 eq 0x1", "a0 0x1 eq 0x1\r\n", "a0\u00a00x1 eq 0x1", "a0 0x1\u2003eq 0x1", "a0 0x1 eq\x000x1", "a0 0x1 eq 0x1\x00", "a0_0x1_eq_0x1", "a00x1eq0x1", "a0 0x1eq 0x1",
		"а0 0x1 eq 0x1", "a٠ 0x1 eq 0x1", "a０ 0x1 eq 0x1", "a0 0x１ eq 0x1", "a0 0x1 еq 0x1", "a0 0x1 ｅｑ 0x1", "日本語", "日 本 語 文", "\ufeffa0 0x1 eq 0x1", "a\u02700 0x1 eq 0x1", "a\u0130 0x1 eq 0x1", "\u01610 0x1 eq 0x1",
		"\xff", "\xff \xff \xff \xff", "a0 0x1 eq 0x1\xff", "a0\xff 0x1 eq 0x1", "a\xff 0x1 eq 0x1", "a0 0x\xff eq 0x1", "a0 0x1 e\xff 0x1", "a0 0x1 eq 0x\xff", "\xe10 0x1 eq 0x1", "a\xb0 0x1 eq 0x1",
		strings.Repeat(" ", 100000), strings.Repeat("a0 0x1 eq 0x1", 1000), strings.Repeat("a0 0x1 eq 0x1 ", 1000), "a0 0x" + strings.Repeat("f", 100000) + " eq 0x1", "a0 0x1 eq 0x" + strings.Repeat("0", 100000), "a" + strings.Repeat("0", 100000) + " 0x1 eq 0x1",
	} {
		wantNoText(t, s)
	}
}

// P8.2: each of the parts, and what no part is, at each of the four places; only what stands at its own place counts.
func TestParsePlaces(t *testing.T) {
	parts := []string{"a0", "a5", "a6", "0x0", "0xff", "0xffffffffffffffff", "eq", "ne", "lt", "le", "gt", "ge", "", "x"}
	kind := func(at int) string { return "aaxnnnccccccxx"[at : at+1] }
	for i, arg := range parts {
		for j, mask := range parts {
			for k, cmp := range parts {
				for l, value := range parts {
					s := arg + " " + mask + " " + cmp + " " + value
					if kind(i)+kind(j)+kind(k)+kind(l) != "ancn" {
						wantNoText(t, s)
					} else if c, e := cond.Parse(s); e != 0 || text(c) != s {
						t.Errorf("Parse(%q): %+v, %d", s, c, e)
					}
				}
			}
		}
	}
}

var pattern = regexp.MustCompile(`\A(a)([0-5]) 0x(0|[1-9a-f][0-9a-f]{0,15}) (eq|ne|lt|le|gt|ge) 0x(0|[1-9a-f][0-9a-f]{0,15})\z`)

// expect reads a text in another way than the program, by a pattern.
func expect(s string) (api.Cond, bool) {
	m := pattern.FindStringSubmatch(s)
	if m == nil {
		return api.Cond{}, false
	}
	mask, _ := strconv.ParseUint(m[3], 16, 64)
	value, _ := strconv.ParseUint(m[5], 16, 64)
	for _, by := range comparisons {
		if by.word == m[4] {
			return api.Cond{Arg: int(m[2][0] - '0'), Cmp: by.cmp, Mask: mask, Value: value}, true
		}
	}
	return api.Cond{}, false
}

// wantAsExpected holds Parse against expect, and, where the text is read, Print against the text.
func wantAsExpected(t *testing.T, s string) bool {
	t.Helper()
	want, ok := expect(s)
	if !ok {
		wantNoText(t, s)
		return false
	}
	wantValid(t, want, s)
	return true
}

// P8.2, P8.3: the texts that lie by one change beside a condition's.
func TestParseNear(t *testing.T) {
	read := 0
	ask := func(s string) {
		if wantAsExpected(t, s) {
			read++
		}
	}
	for _, s := range []string{"a0 0x0 eq 0x0", "a5 0xff ne 0x10", "a3 0xffffffffffffffff lt 0x8000000000000000", "a1 0x1 le 0xf", "a2 0xa gt 0x9", "a4 0x123456789abcdef ge 0x1"} {
		for at := range len(s) + 1 {
			ask(s[:at])
			ask(s[at:])
			for b := range 256 {
				ask(s[:at] + string([]byte{byte(b)}) + s[at:])
				if at < len(s) {
					ask(s[:at] + string([]byte{byte(b)}) + s[at+1:])
				}
			}
			for _, r := range []string{"é", "\u00a0", "０", "\ufffd", "\u0100", "0x", " eq", "  "} {
				ask(s[:at] + r + s[at:])
			}
			if at < len(s) {
				ask(s[:at] + s[at+1:])
			}
		}
	}
	if read < 100 {
		t.Errorf("%d texts were read", read)
	}
}

// P8.3: texts and conditions, back and forth, for mixed numbers.
func TestInverse(t *testing.T) {
	next := numbers(1)
	for range 20000 {
		c := api.Cond{Arg: int(next() % arguments), Cmp: int(next() % 6), Mask: next() >> (next() % 64), Value: next() >> (next() % 64)}
		s, e := cond.Print(c)
		if back, e2 := cond.Parse(s); back != c || e != 0 || e2 != 0 {
			t.Errorf("%+v: %q, %d; %+v, %d", c, s, e, back, e2)
		}
		want := strings.Join([]string{"a" + strconv.Itoa(c.Arg), word.Text(c.Mask), comparisons[c.Cmp].word, word.Text(c.Value)}, " ")
		if s != want {
			t.Errorf("Print(%+v): %q; want %q", c, s, want)
		}
	}
}

// P8.4: of Eq, Lt and Gt exactly one holds; Le and Ge both do if and only if Eq does.
func TestExactlyOne(t *testing.T) {
	next := numbers(2)
	for at := range 50000 {
		c := api.Cond{Arg: at % arguments, Mask: next() >> (next() % 64), Value: next() >> (next() % 64)}
		n := next() >> (next() % 64)
		if at%3 == 0 {
			c.Value = n & c.Mask
		}
		var holds [6]bool
		count := 0
		for cmp := range holds {
			c.Cmp = cmp
			holds[cmp] = cond.Holds(c, record(c.Arg, n))
			if holds[cmp] && (cmp == api.Eq || cmp == api.Lt || cmp == api.Gt) {
				count++
			}
		}
		if count != 1 || (holds[api.Le] && holds[api.Ge]) != holds[api.Eq] {
			t.Errorf("%#x, %+v: %v", n, c, holds)
		}
	}
}

// P8.5: bits of the argument that the mask has not, and all else of the record, make no difference.
func TestMaskedBitsAlone(t *testing.T) {
	next := numbers(3)
	for at := range 50000 {
		c := api.Cond{Arg: at % arguments, Cmp: int(next() % 6), Mask: next() >> (next() % 64) << (next() % 64), Value: next() >> (next() % 64)}
		n := next()
		if at%3 == 0 {
			c.Value = n & c.Mask
		}
		d := record(c.Arg, n)
		other := api.Data{Nr: uint32(next()), Arch: uint32(next()), Ip: next()}
		for i := range other.Args {
			other.Args[i] = next()
		}
		other.Args[c.Arg] = n&c.Mask | next()&^c.Mask
		if cond.Holds(c, d) != cond.Holds(c, other) {
			t.Errorf("%+v: %+v and %+v", c, d, other)
		}
	}
}

// P0 (R4): calls answer the same again, and in any order.
func TestCallsAreRepeatable(t *testing.T) {
	type answers struct {
		right, holds bool
		text         string
		printed      api.Errno
		read         api.Cond
		parsed       api.Errno
		not          api.Cond
	}
	ask := func(c api.Cond, d api.Data, s string) (a answers) {
		a.right, a.holds, a.not = cond.Right(c), cond.Holds(c, d), cond.Not(c)
		a.text, a.printed = cond.Print(c)
		a.read, a.parsed = cond.Parse(s)
		return a
	}
	first := map[int]answers{}
	for round := range 3 {
		next := numbers(4)
		for at := range 500 {
			c := api.Cond{Arg: int(next() % 8), Cmp: int(next() % 8), Mask: next(), Value: next()}
			s := "a" + strconv.Itoa(c.Arg) + " 0x1 eq " + word.Text(c.Value)
			a := ask(c, record(at%arguments, next()), s)
			if round == 0 {
				first[at] = a
			} else if a != first[at] {
				t.Errorf("%+v: %+v, then %+v", c, first[at], a)
			}
		}
	}
}

// P8.1 to P8.3, P0 (R1, R2): any text.
func FuzzParse(f *testing.F) {
	for _, s := range []string{"", " ", "a0 0xff eq 0x5", "a5 0xffffffffffffffff ge 0x0", "a3 0x1 le 0x2 ", "a6 0x1 eq 0x1", "a0 0x1 == 0x1", "\xff é 0x1 eq"} {
		f.Add(s)
	}
	f.Fuzz(func(t *testing.T, s string) { wantAsExpected(t, s) })
}

// P8.1 to P8.5, P0 (R1): any condition, and any argument.
func FuzzHolds(f *testing.F) {
	f.Add(0, 0, uint64(0xff), uint64(5), uint64(0x105))
	f.Add(5, 5, uint64(math.MaxUint64), uint64(1)<<63, uint64(1))
	f.Add(6, 0, uint64(1), uint64(1), uint64(1))
	f.Add(-1, -1, uint64(0), uint64(0), uint64(0))
	f.Fuzz(func(t *testing.T, arg, cmp int, mask, value, n uint64) {
		c := api.Cond{Arg: arg, Cmp: cmp, Mask: mask, Value: value}
		if arg < 0 || arg >= arguments || cmp < 0 || cmp > 5 {
			wantInvalid(t, c)
			return
		}
		wantValid(t, c, text(c))
		wantHolds(t, c, n)
	})
}
