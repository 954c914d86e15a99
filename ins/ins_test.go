package ins_test

import (
	"math"
	"strconv"
	"strings"
	"testing"

	"hurdle/api"
	"hurdle/ins"
	"hurdle/word"
)

// formats tells, for each word, the operation, the fields that its text has (k, t and f), and the kind of arithmetic, or
// none. It is written out from the document's list, apart from the program's own table.
var formats = []struct {
	word   string
	op     int
	fields string
	kind   int
}{
	{"ld", 0x00, "k", none}, {"ldx", 0x01, "k", none}, {"st", 0x02, "k", none}, {"stx", 0x03, "k", none},
	{"add", 0x04, "k", 0x04}, {"sub", 0x14, "k", 0x14}, {"mul", 0x24, "k", 0x24}, {"div", 0x34, "k", 0x34}, {"or", 0x44, "k", 0x44},
	{"and", 0x54, "k", 0x54}, {"lsh", 0x64, "k", 0x64}, {"rsh", 0x74, "k", 0x74}, {"xor", 0xa4, "k", 0xa4},
	{"addx", 0x0c, "", 0x04}, {"subx", 0x1c, "", 0x14}, {"mulx", 0x2c, "", 0x24}, {"divx", 0x3c, "", 0x34}, {"orx", 0x4c, "", 0x44},
	{"andx", 0x5c, "", 0x54}, {"lshx", 0x6c, "", 0x64}, {"rshx", 0x7c, "", 0x74}, {"xorx", 0xac, "", 0xa4},
	{"neg", 0x84, "", none}, {"tax", 0x07, "", none}, {"txa", 0x87, "", none},
	{"abs", 0x20, "k", none}, {"mem", 0x60, "k", none}, {"memx", 0x61, "k", none},
	{"ja", 0x05, "k", none}, {"ret", 0x06, "k", none}, {"reta", 0x16, "", none},
	{"jeq", 0x15, "ktf", none}, {"jgt", 0x25, "ktf", none}, {"jge", 0x35, "ktf", none}, {"jset", 0x45, "ktf", none},
	{"jeqx", 0x1d, "tf", none}, {"jgtx", 0x2d, "tf", none}, {"jgex", 0x3d, "tf", none}, {"jsetx", 0x4d, "tf", none},
}

const none = -1

// apiOps are all operations of api, by their names there.
var apiOps = []int{
	api.LdImm, api.LdxImm, api.St, api.Stx, api.AddK, api.SubK, api.MulK, api.DivK, api.OrK,
	api.AndK, api.LshK, api.RshK, api.XorK, api.AddX, api.SubX, api.MulX, api.DivX, api.OrX,
	api.AndX, api.LshX, api.RshX, api.XorX, api.Neg, api.Tax, api.Txa, api.LdAbs, api.LdMem, api.LdxMem,
	api.Ja, api.RetK, api.RetA, api.JeqK, api.JgtK, api.JgeK, api.JsetK, api.JeqX, api.JgtX, api.JgeX, api.JsetX,
}

var (
	ks    = []uint32{0, 1, 4, 5, 9, 10, 15, 16, 100, 255, 256, 0x1000, 0x7fff0000, 0x7fffffff, 0x80000000, 0xfffffffe, 0xffffffff}
	jumps = []int{0, 1, 2, 9, 10, 15, 16, 17, 127, 128, 160, 254, 255}
	// noJumps are those that no branch has; some would be a jump's if they were cut to their lower bits.
	noJumps = []int{-1, -2, -128, -255, -256, 256, 257, 300, 512, 1000, 0x10001, -0x10000, math.MaxInt, math.MinInt, math.MinInt + 1, math.MaxInt32, math.MinInt32}
)

// others calls f with operations that are none: all small numbers that aren't listed, negative and large ones, and
// such as have a listed one's lower bits.
func others(f func(op int)) {
	listed := map[int]bool{}
	for _, o := range formats {
		listed[o.op] = true
	}
	ask := func(op int) {
		if !listed[op] {
			f(op)
		}
	}
	for op := -0x1000; op <= 0x1000; op++ {
		ask(op)
	}
	for _, op := range []int{math.MinInt, math.MinInt + 1, math.MinInt32, math.MaxInt32, math.MaxInt - 1, math.MaxInt, 0xffff, 0x10000} {
		ask(op)
	}
	for _, o := range formats {
		for _, op := range []int{-o.op, ^o.op, o.op + 1<<16, o.op - 1<<16, o.op + 1<<24, o.op + math.MinInt} {
			ask(op)
		}
		wide := int64(o.op) + 1<<32
		if op := int(wide); int64(op) == wide {
			ask(op)
		}
	}
}

// each calls f with every combination of an operation and fields at their edges, whether valid or not, and with what
// the document asks of it: the text, or that there is none.
func each(f func(x api.Ins, text string, valid bool)) {
	js := append(append([]int{}, jumps...), noJumps...)
	for _, o := range formats {
		for _, k := range ks {
			for _, jt := range js {
				for _, jf := range js {
					x := api.Ins{Op: o.op, Jt: jt, Jf: jf, K: k}
					text, valid := o.word, true
					if strings.Contains(o.fields, "k") {
						text += " 0x" + strconv.FormatUint(uint64(k), 16)
					} else {
						valid = k == 0
					}
					if strings.Contains(o.fields, "tf") {
						text += " 0x" + strconv.FormatInt(int64(jt), 16) + " 0x" + strconv.FormatInt(int64(jf), 16)
						valid = valid && jt >= 0 && jt < 256 && jf >= 0 && jf < 256
					} else {
						valid = valid && jt == 0 && jf == 0
					}
					f(x, text, valid)
				}
			}
		}
	}
}

// eachValid calls f with valid instructions of every operation, and with every pair of jumps for the branches.
func eachValid(f func(x api.Ins, text string)) {
	each(func(x api.Ins, text string, valid bool) {
		if valid {
			f(x, text)
		}
	})
	for _, o := range formats {
		if o.fields != "ktf" && o.fields != "tf" {
			continue
		}
		for jt := range 256 {
			for jf := range 256 {
				x := api.Ins{Op: o.op, Jt: jt, Jf: jf}
				text := o.word
				if o.fields == "ktf" {
					x.K = 7
					text += " 0x7"
				}
				f(x, text+" 0x"+strconv.FormatInt(int64(jt), 16)+" 0x"+strconv.FormatInt(int64(jf), 16))
			}
		}
	}
}

func wantValid(t *testing.T, x api.Ins, text string) {
	t.Helper()
	if !ins.Right(x) {
		t.Errorf("Right(%+v): false", x)
	}
	if s, e := ins.Print(x); s != text || e != api.OK {
		t.Errorf("Print(%+v): %q, %d; want %q", x, s, e, text)
	}
	if got, e := ins.Parse(text); got != x || e != api.OK {
		t.Errorf("Parse(%q): %+v, %d; want %+v", text, got, e, x)
	}
}

func wantInvalid(t *testing.T, x api.Ins) {
	t.Helper()
	if ins.Right(x) {
		t.Errorf("Right(%+v): true", x)
	}
	if s, e := ins.Print(x); s != "" || e != api.ErrArg {
		t.Errorf("Print(%+v): %q, %d; want the empty text, ErrArg", x, s, e)
	}
}

func wantNoText(t *testing.T, s string) {
	t.Helper()
	if x, e := ins.Parse(s); x != (api.Ins{}) || e != api.ErrForm {
		t.Errorf("Parse(%q): %+v, %d; want the zero instruction, ErrForm", s, x, e)
	}
}

// The list that the tests hold the program against has just the operations of api, each of them once.
func TestFormatsAreWhole(t *testing.T) {
	seen := map[int]int{}
	for _, o := range formats {
		seen[o.op]++
	}
	if len(formats) != 39 || len(apiOps) != 39 || len(seen) != 39 {
		t.Fatalf("%d formats, %d operations, %d different ones; want 39", len(formats), len(apiOps), len(seen))
	}
	for _, op := range apiOps {
		if seen[op] != 1 {
			t.Errorf("operation %#x: listed %d times", op, seen[op])
		}
	}
}

// P2.1: the examples of the chapter, and an instruction for each word.
func TestExamples(t *testing.T) {
	for _, c := range []struct {
		text string
		x    api.Ins
	}{
		{"jeq 0x5 0x1 0x0", api.Ins{Op: api.JeqK, K: 5, Jt: 1}},
		{"abs 0x4", api.Ins{Op: api.LdAbs, K: 4}},
		{"addx", api.Ins{Op: api.AddX}},
		{"ret 0x7fff0000", api.Ins{Op: api.RetK, K: api.Allow}},
		{"ld 0x0", api.Ins{Op: api.LdImm}},
		{"ldx 0xffffffff", api.Ins{Op: api.LdxImm, K: 0xffffffff}},
		{"st 0x1", api.Ins{Op: api.St, K: 1}},
		{"stx 0x2", api.Ins{Op: api.Stx, K: 2}},
		{"add 0x3", api.Ins{Op: api.AddK, K: 3}},
		{"sub 0x4", api.Ins{Op: api.SubK, K: 4}},
		{"mul 0x5", api.Ins{Op: api.MulK, K: 5}},
		{"div 0x0", api.Ins{Op: api.DivK}},
		{"or 0x6", api.Ins{Op: api.OrK, K: 6}},
		{"and 0x7", api.Ins{Op: api.AndK, K: 7}},
		{"lsh 0x20", api.Ins{Op: api.LshK, K: 32}},
		{"rsh 0x8", api.Ins{Op: api.RshK, K: 8}},
		{"xor 0x9", api.Ins{Op: api.XorK, K: 9}},
		{"subx", api.Ins{Op: api.SubX}},
		{"mulx", api.Ins{Op: api.MulX}},
		{"divx", api.Ins{Op: api.DivX}},
		{"orx", api.Ins{Op: api.OrX}},
		{"andx", api.Ins{Op: api.AndX}},
		{"lshx", api.Ins{Op: api.LshX}},
		{"rshx", api.Ins{Op: api.RshX}},
		{"xorx", api.Ins{Op: api.XorX}},
		{"neg", api.Ins{Op: api.Neg}},
		{"tax", api.Ins{Op: api.Tax}},
		{"txa", api.Ins{Op: api.Txa}},
		{"mem 0x10", api.Ins{Op: api.LdMem, K: 16}},
		{"memx 0xf", api.Ins{Op: api.LdxMem, K: 15}},
		{"ja 0x12345678", api.Ins{Op: api.Ja, K: 0x12345678}},
		{"reta", api.Ins{Op: api.RetA}},
		{"jgt 0x1 0x2 0x3", api.Ins{Op: api.JgtK, K: 1, Jt: 2, Jf: 3}},
		{"jge 0x0 0x0 0xff", api.Ins{Op: api.JgeK, Jf: 255}},
		{"jset 0xffffffff 0xff 0xff", api.Ins{Op: api.JsetK, K: 0xffffffff, Jt: 255, Jf: 255}},
		{"jeqx 0x1 0x2", api.Ins{Op: api.JeqX, Jt: 1, Jf: 2}},
		{"jgtx 0x0 0x0", api.Ins{Op: api.JgtX}},
		{"jgex 0xff 0x0", api.Ins{Op: api.JgeX, Jt: 255}},
		{"jsetx 0x0 0xff", api.Ins{Op: api.JsetX, Jf: 255}},
	} {
		wantValid(t, c.x, c.text)
	}
}

// P2.1: every operation, with fields at their edges and beyond them.
func TestEveryOperation(t *testing.T) {
	valid, invalid := 0, 0
	each(func(x api.Ins, text string, ok bool) {
		if ok {
			wantValid(t, x, text)
			valid++
		} else {
			wantInvalid(t, x)
			invalid++
		}
	})
	if valid == 0 || invalid == 0 {
		t.Errorf("%d valid instructions, %d others", valid, invalid)
	}
}

// P2.1: every pair of jumps of a branch is valid.
func TestEveryJump(t *testing.T) {
	eachValid(func(x api.Ins, text string) { wantValid(t, x, text) })
}

// P2.1, P0 (R1, R2): an operation that is none of those listed, whatever the fields are.
func TestNoOperation(t *testing.T) {
	others(func(op int) {
		for _, x := range []api.Ins{
			{Op: op}, {Op: op, K: 1}, {Op: op, K: math.MaxUint32}, {Op: op, Jt: 1, Jf: 2}, {Op: op, Jt: 255, Jf: 255, K: 5}, {Op: op, Jt: -1, Jf: 256},
		} {
			wantInvalid(t, x)
		}
	})
}

// P2.1: one field too much for each format.
func TestFieldsThatMustBeZero(t *testing.T) {
	for _, x := range []api.Ins{
		{Op: api.Tax, K: 1}, {Op: api.Neg, K: 0x80000000}, {Op: api.Txa, Jt: 1}, {Op: api.RetA, Jf: 1}, {Op: api.RetA, K: api.Allow},
		{Op: api.AddX, K: 1}, {Op: api.XorX, Jt: 1}, {Op: api.DivX, Jf: -1}, {Op: api.LshX, K: 0xffffffff},
		{Op: api.LdImm, Jt: 1}, {Op: api.LdImm, Jf: 1}, {Op: api.Ja, Jt: 255}, {Op: api.RetK, Jf: 255}, {Op: api.St, Jt: -1}, {Op: api.AddK, K: 1, Jt: 1}, {Op: api.LdxMem, Jf: math.MinInt},
		{Op: api.JeqX, K: 1}, {Op: api.JgtX, K: 5, Jt: 1, Jf: 2}, {Op: api.JgeX, K: 0xffffffff}, {Op: api.JsetX, K: 0x10000},
		{Op: api.JeqK, Jt: 256}, {Op: api.JeqK, Jf: 256}, {Op: api.JgtK, Jt: -1}, {Op: api.JgeK, Jf: -1}, {Op: api.JsetK, Jt: 256, Jf: -1}, {Op: api.JsetX, Jt: math.MaxInt}, {Op: api.JeqX, Jf: math.MinInt},
	} {
		wantInvalid(t, x)
	}
}

// P2.1, P0 (R1, R2): texts that no instruction has.
func TestParseRefuses(t *testing.T) {
	for _, s := range []string{
		"", " ", "  ", "   ", "    ", "     ", "\n", "\t", "\x00", strings.Repeat(" ", 1000),
		"hay", "l", "lddd", "LD 0x1", "Ld 0x1", "NEG", "Tax", "negx", "taxx", "retk", "retx", "retax", "jmp 0x1", "jax 0x1", "absx 0x4", "stxx 0x0", "memxx 0x1", "jne 0x1 0x1 0x1", "jlt 0x1 0x1 0x1",
		"0x1", "0x5 0x1 0x0", "0x15 0x5 0x1 0x0", "addk 0x1", "ldimm 0x1", "jeqk 0x5 0x1 0x0", "mod 0x1", "modx", "nop", "#", "0",
		"ld", "ldx", "st", "abs", "mem", "memx", "ja", "ret", "add", "xor", "jeq", "jeq 0x1", "jeq 0x1 0x1", "jeqx", "jeqx 0x1", "jset 0x0 0x0", "jsetx 0x0",
		"ld 0x1 0x0", "ld 0x1 0x0 0x0", "ret 0x0 0x0", "neg 0x0", "tax 0x0", "reta 0x0", "addx 0x0", "xorx 0x1", "neg 0x0 0x0 0x0", "addx 0x0 0x0",
		"jeq 0x5 0x1 0x0 0x0", "jeq 0x5 0x1 0x0 0x0 0x0", "jeqx 0x1 0x0 0x0", "jeqx 0x0 0x1 0x0", "jgtx 0x0 0x0 0x0 0x0", "neg neg", "tax txa", "ld 0x1 ld 0x1", "ret 0x0\nret 0x0", "ld ld", "ld 0x1 neg",
		"ld  0x1", "jeq  0x5 0x1 0x0", "jeq 0x5  0x1 0x0", "jeq 0x5 0x1  0x0", "jeqx 0x1  0x0", "jeqx  0x1 0x0", "neg  ", "  neg",
		" ld 0x1", "ld 0x1 ", "ld ", " ld", " neg", "neg ", "jeq 0x5 0x1 0x0 ", " jeq 0x5 0x1 0x0", "jeq 0x5 0x1 ", "jeq 0x5 ", "jeqx 0x1 0x0 ", "jeqx 0x1 ", "jeq ",
		"ld 5", "ld x5", "ld 0x", "ld 0X5", "ld 0x05", "ld 0x00", "ld 0xA", "ld 0xg", "ld -0x1", "ld +0x1", "ld 0x1_0", "ld $5", "ld #5", "ld 05", "ld 5h", "ld 0x1,", "ld 0x1;", "ld 0x-1",
		"jeq 5 0x1 0x0", "jeq 0x5 1 0x0", "jeq 0x5 0x1 0", "jeq 0x05 0x1 0x0", "jeq 0x5 0x01 0x0", "jeq 0x5 0x1 0x00", "jeq 0x5 0x1 0x", "jeq 0x5 0xFF 0x0", "jeq 0x5 -0x1 0x0", "jeqx 1 0x0", "jeqx 0x1 0", "jeqx 0x00 0x0", "jeq x x x",
		"ld 0x100000000", "ld 0x1ffffffff", "ld 0xffffffffff", "ld 0x10000000000000000", "ret 0x7fff00000", "ld 0xffffffffffffffff", "add 0x100000001", "xor 0x8000000000000000", "jeq 0x100000000 0x0 0x0", "jset 0xfffffffff 0x0 0x0",
		"jeq 0x5 0x100 0x0", "jeq 0x5 0x0 0x100", "jeq 0x5 0x101 0x0", "jeq 0x5 0x0 0x1ff", "jeqx 0x100 0x0", "jeqx 0x0 0x100", "jgt 0x0 0x10000 0x0", "jge 0x0 0x100000000 0x0", "jsetx 0x0 0x100000000", "jsetx 0xffffffff 0xffffffff", "jeq 0x0 0x0 0x10000000000000000", "jeq 0x0 0x8000000000000000 0x0",
		"ld\t0x1", "ld\n0x1", "ld\r0x1", "ld,0x1", "ld\u00a00x1", "ld\u20030x1", "ld\u30000x1", "ld\x000x1", "ld0x1", "ld_0x1", "ld 0x1\n", "ld 0x1\r\n", "neg\n", "\nneg", "neg\r", "neg\t", "neg\x00", "\x00neg", "neg;", "neg,",
		"né", "ñeg", "neg é", "negé", "énег", "пеg", "ｎｅｇ", "ld 0x１", "ld 0xé", "ld ０x1", "日本語", "日本語 0x1", "😀", "ld 😀", "\ufeffneg", "neg\u200b", "neg\ufffd", "\ufffd", "ne\u0301g",
		"\xff", "neg\xff", "\xffneg", "ne\xffg", "ld \xff", "ld 0x\xff", "ld 0x1\xff", "ld\xff0x1", "ld\xa00x1", "\xc3", "neg\xc3", "ld \xe2\x82", "ld\xc2 0x1", "ld\xe2\x80 0x1", "ld\xc0\xa00x1", "l\xe4 0x1", "ld 0x1 \xf0\x9f", "\xed\xa0\x80", "ld\xf0 0x1",
		"ld " + strings.Repeat("f", 1000), "ld 0x" + strings.Repeat("0", 1000), "jeq 0x5 0x1 0x0" + strings.Repeat(" 0x0", 1000), "jeq" + strings.Repeat(" ", 1000), strings.Repeat("neg", 1000), strings.Repeat("neg ", 1000),
	} {
		wantNoText(t, s)
	}
}

// P2.1: each word with every number of parts behind it but the right one, and with an empty part.
func TestParseCountsParts(t *testing.T) {
	for _, o := range formats {
		for n := range 12 {
			s := o.word + strings.Repeat(" 0x1", n)
			if _, e := ins.Parse(s); n == len(o.fields) && e != api.OK {
				t.Errorf("Parse(%q): %d", s, e)
			}
			if n != len(o.fields) {
				wantNoText(t, s)
			}
			wantNoText(t, s+" ")
			wantNoText(t, " "+s)
			wantNoText(t, o.word+" "+strings.Repeat(" 0x1", n))
		}
	}
}

// P2.1: the largest number of each field, and the next ones.
func TestParseFieldLimits(t *testing.T) {
	for _, o := range formats {
		for at, field := range o.fields {
			most := uint64(255)
			if field == 'k' {
				most = 0xffffffff
			}
			for _, n := range []uint64{0, most - 1, most, most + 1, most + 2, 2*most + 1, most + 1<<32, most + 1<<40, math.MaxUint64} {
				parts := []string{o.word}
				for i := range o.fields {
					if i == at {
						parts = append(parts, word.Text(n))
					} else {
						parts = append(parts, "0x2")
					}
				}
				s := strings.Join(parts, " ")
				if n > most {
					wantNoText(t, s)
				} else if _, e := ins.Parse(s); e != api.OK {
					t.Errorf("Parse(%q): %d", s, e)
				}
			}
		}
	}
}

// expect reads a text in another way than the program, from the list of the tests.
func expect(s string) (api.Ins, bool) {
	for _, o := range formats {
		rest, ok := strings.CutPrefix(s, o.word)
		if !ok {
			continue
		}
		x := api.Ins{Op: o.op}
		for _, field := range o.fields {
			var digits string
			digits, ok = strings.CutPrefix(rest, " 0x")
			if !ok {
				break
			}
			if end := strings.IndexByte(digits, ' '); end >= 0 {
				digits, rest = digits[:end], digits[end:]
			} else {
				rest = ""
			}
			size := 8
			if field == 'k' {
				size = 32
			}
			n, err := strconv.ParseUint(digits, 16, size)
			if ok = err == nil && strconv.FormatUint(n, 16) == digits; !ok {
				break
			}
			switch field {
			case 'k':
				x.K = uint32(n)
			case 't':
				x.Jt = int(n)
			case 'f':
				x.Jf = int(n)
			}
		}
		if ok && rest == "" {
			return x, true
		}
	}
	return api.Ins{}, false
}

// wantAsExpected holds Parse against expect, and, where the text is read, Print against the text (P2.3).
func wantAsExpected(t *testing.T, s string) bool {
	t.Helper()
	want, ok := expect(s)
	if !ok {
		wantNoText(t, s)
		return false
	}
	x, e := ins.Parse(s)
	if x != want || e != api.OK {
		t.Errorf("Parse(%q): %+v, %d; want %+v", s, x, e, want)
	}
	if back, e := ins.Print(x); back != s || e != api.OK {
		t.Errorf("Print(Parse(%q)): %q, %d", s, back, e)
	}
	return true
}

// near calls f with the texts that lie by one change beside s.
func near(s string, f func(s string)) {
	for at := range len(s) + 1 {
		for _, c := range []string{" ", "0", "1", "f", "x", "a", "s", "j", "q", "A", "g", "-", "\n", "\t", "\x00", "é", "\u00a0", "１", "\ufffd", "\xff", "\xc2"} {
			f(s[:at] + c + s[at:])
			if at < len(s) {
				f(s[:at] + c + s[at+1:])
			}
		}
		if at < len(s) {
			f(s[:at] + s[at+1:])
		}
		f(s[:at])
		f(s[at:])
	}
}

// P2.1, P2.3: texts by one change beside those of instructions.
func TestParseNearTexts(t *testing.T) {
	read := 0
	for _, o := range formats {
		for _, numbers := range [][3]string{{"0x0", "0x0", "0x0"}, {"0xffffffff", "0xff", "0xff"}, {"0x10", "0xf", "0x1f"}} {
			s := o.word
			for _, field := range o.fields {
				s += " " + numbers[strings.IndexRune("ktf", field)]
			}
			near(s, func(s string) {
				if wantAsExpected(t, s) {
					read++
				}
			})
		}
	}
	if read == 0 {
		t.Error("no text was read")
	}
}

// P2.1: every single byte, and every rune up to U+2FFFF, where a space, a digit or a letter stands, or at an end.
func TestParseEveryRune(t *testing.T) {
	everyPlace := func(c string) {
		for _, s := range []string{c, c + "neg", "neg" + c, "n" + c + "g", "ne" + c, "ld" + c + "0x1", "ld " + c, "ld 0x" + c, "jeqx 0x1" + c + "0x2"} {
			wantAsExpected(t, s)
		}
	}
	for c := range 256 {
		everyPlace(string([]byte{byte(c)}))
	}
	for r := rune(128); r <= 0x2ffff; r++ {
		everyPlace(string(r))
	}
}

// P2.1: every short text of letters is read just where it is a word without fields.
func TestParseShortTexts(t *testing.T) {
	const letters = "adegnortx "
	read := 0
	var grow func(s string)
	grow = func(s string) {
		if wantAsExpected(t, s) {
			read++
		}
		if len(s) == 5 {
			return
		}
		for _, c := range letters {
			grow(s + string(c))
		}
	}
	grow("")
	// addx, andx, orx, xorx, neg, tax, txa, reta
	if read != 8 {
		t.Errorf("%d texts were read; want 8", read)
	}
}

// P2.2: what Alu, Branch and Ends answer for each operation, whatever the other fields are.
func TestKinds(t *testing.T) {
	branches := map[int]bool{api.JeqK: true, api.JgtK: true, api.JgeK: true, api.JsetK: true, api.JeqX: true, api.JgtX: true, api.JgeX: true, api.JsetX: true}
	each(func(x api.Ins, _ string, _ bool) {
		kind, byX, ok := 0, false, false
		for _, o := range formats {
			if o.op == x.Op && o.kind != none {
				kind, byX, ok = o.kind, o.fields == "", true
			}
		}
		if k, by, is := ins.Alu(x); k != kind || by != byX || is != ok {
			t.Errorf("Alu(%+v): %#x, %v, %v; want %#x, %v, %v", x, k, by, is, kind, byX, ok)
		}
		if got := ins.Branch(x); got != branches[x.Op] {
			t.Errorf("Branch(%+v): %v", x, got)
		}
		if got := ins.Ends(x); got != (x.Op == api.RetK || x.Op == api.RetA) {
			t.Errorf("Ends(%+v): %v", x, got)
		}
	})
}

// P2.2: Alu by api's names, and its kind is one of word.Do's.
func TestAlu(t *testing.T) {
	for _, c := range []struct{ op, kind int }{
		{api.AddX, api.AddK}, {api.SubX, api.SubK}, {api.MulX, api.MulK}, {api.DivX, api.DivK}, {api.OrX, api.OrK},
		{api.AndX, api.AndK}, {api.LshX, api.LshK}, {api.RshX, api.RshK}, {api.XorX, api.XorK},
	} {
		if kind, byX, ok := ins.Alu(api.Ins{Op: c.op}); kind != c.kind || !byX || !ok {
			t.Errorf("Alu(%#x): %#x, %v, %v; want %#x, true, true", c.op, kind, byX, ok, c.kind)
		}
		if kind, byX, ok := ins.Alu(api.Ins{Op: c.kind}); kind != c.kind || byX || !ok {
			t.Errorf("Alu(%#x): %#x, %v, %v; want %#x, false, true", c.kind, kind, byX, ok, c.kind)
		}
		if _, ok := word.Do(c.kind, 6, 3); !ok {
			t.Errorf("kind %#x: word.Do has it not", c.kind)
		}
	}
	if kind, byX, ok := ins.Alu(api.Ins{Op: api.Neg}); kind != 0 || byX || ok {
		t.Errorf("Alu of Neg: %#x, %v, %v; want 0, false, false", kind, byX, ok)
	}
}

// P2.2, P0 (R1): an operation that is none does no arithmetic, is no branch and ends nothing, whatever the fields are.
func TestKindsOfNoOperation(t *testing.T) {
	others(func(op int) {
		for _, x := range []api.Ins{{Op: op}, {Op: op, Jt: 1, Jf: 255, K: 5}, {Op: op, Jt: math.MinInt, Jf: math.MaxInt, K: math.MaxUint32}} {
			if kind, byX, ok := ins.Alu(x); kind != 0 || byX || ok {
				t.Errorf("Alu(%+v): %#x, %v, %v; want 0, false, false", x, kind, byX, ok)
			}
			if ins.Branch(x) {
				t.Errorf("Branch(%+v): true", x)
			}
			if ins.Ends(x) {
				t.Errorf("Ends(%+v): true", x)
			}
		}
	})
}

// P2.3: Parse reverses Print where x is valid, and Print reverses Parse.
func TestPrintAndParseAreInverse(t *testing.T) {
	eachValid(func(x api.Ins, _ string) {
		s, e := ins.Print(x)
		if e != api.OK {
			t.Errorf("Print(%+v): %d", x, e)
		}
		y, e := ins.Parse(s)
		if y != x || e != api.OK {
			t.Errorf("Parse(Print(%+v)), of %q: %+v, %d", x, s, y, e)
		}
		if again, e := ins.Print(y); again != s || e != api.OK {
			t.Errorf("Print(Parse(%q)): %q, %d", s, again, e)
		}
	})
}

// P2.4: no two valid instructions have one text.
func TestTextsDiffer(t *testing.T) {
	of := map[string]api.Ins{}
	count := 0
	eachValid(func(x api.Ins, _ string) {
		s, _ := ins.Print(x)
		if y, ok := of[s]; ok && y != x {
			t.Errorf("%q is the text of %+v and of %+v", s, y, x)
		}
		of[s] = x
		count++
	})
	if _, ok := of[""]; ok || count == 0 {
		t.Errorf("of %d instructions one has the empty text: %v", count, ok)
	}
}

// P0 (R4): a call's result does not hang on the calls before it.
func TestCallsAreRepeatable(t *testing.T) {
	type answer struct {
		right, byX, alu, branch, ends bool
		kind                          int
		text                          string
		printed, parsed               api.Errno
		x                             api.Ins
	}
	var first []answer
	for round := range 3 {
		i := 0
		each(func(x api.Ins, text string, _ bool) {
			var a answer
			a.right, a.branch, a.ends = ins.Right(x), ins.Branch(x), ins.Ends(x)
			a.kind, a.byX, a.alu = ins.Alu(x)
			a.text, a.printed = ins.Print(x)
			a.x, a.parsed = ins.Parse(text)
			if round == 0 {
				first = append(first, a)
			} else if a != first[i] {
				t.Fatalf("%+v: %+v, before %+v", x, a, first[i])
			}
			i++
		})
	}
}

// FuzzParse holds Parse against the tests' own reading, on any bytes.
func FuzzParse(f *testing.F) {
	for _, o := range formats {
		f.Add(o.word + strings.Repeat(" 0x1", len(o.fields)))
		f.Add(o.word + strings.Repeat(" 0xff", len(o.fields)))
		f.Add(o.word + strings.Repeat(" 0x100", len(o.fields)))
	}
	f.Add("")
	f.Add("ld\xff0x1")
	f.Fuzz(func(t *testing.T, s string) { wantAsExpected(t, s) })
}

// FuzzPrint holds Right, Print and the way back against each other, on any fields.
func FuzzPrint(f *testing.F) {
	for _, o := range formats {
		f.Add(o.op, 0, 0, uint32(0))
		f.Add(o.op, 255, 1, uint32(5))
		f.Add(o.op, 0, 256, uint32(0))
	}
	f.Fuzz(func(t *testing.T, op, jt, jf int, k uint32) {
		x := api.Ins{Op: op, Jt: jt, Jf: jf, K: k}
		s, e := ins.Print(x)
		if e != api.OK {
			wantInvalid(t, x)
			return
		}
		wantValid(t, x, s)
		if y, ok := expect(s); y != x || !ok {
			t.Errorf("Print(%+v): %q", x, s)
		}
	})
}
