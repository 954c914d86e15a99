package codec_test

import (
	"bytes"
	"encoding/binary"
	"math"
	"slices"
	"strings"
	"testing"

	"hurdle/api"
	"hurdle/codec"
	"hurdle/ins"
)

// Which fields the text of an operation has.
const (
	noField = iota
	onlyK
	onlyJumps
	allFields
)

// operations are all of api's, by the fields that may be other than 0.
var operations = map[int]int{
	api.Neg: noField, api.Tax: noField, api.Txa: noField, api.RetA: noField,
	api.AddX: noField, api.SubX: noField, api.MulX: noField, api.DivX: noField, api.OrX: noField, api.AndX: noField, api.LshX: noField, api.RshX: noField, api.XorX: noField,
	api.AddK: onlyK, api.SubK: onlyK, api.MulK: onlyK, api.DivK: onlyK, api.OrK: onlyK, api.AndK: onlyK, api.LshK: onlyK, api.RshK: onlyK, api.XorK: onlyK,
	api.LdImm: onlyK, api.LdxImm: onlyK, api.St: onlyK, api.Stx: onlyK, api.LdAbs: onlyK, api.LdMem: onlyK, api.LdxMem: onlyK, api.Ja: onlyK, api.RetK: onlyK,
	api.JeqX: onlyJumps, api.JgtX: onlyJumps, api.JgeX: onlyJumps, api.JsetX: onlyJumps,
	api.JeqK: allFields, api.JgtK: allFields, api.JgeK: allFields, api.JsetK: allFields,
}

// wrong are instructions that are not valid; many of them would be if their fields were cut to the encoding's bytes.
var wrong = []api.Ins{
	{Op: 8}, {Op: -1}, {Op: 255}, {Op: 256}, {Op: 0x106}, {Op: 0x10006, K: 1}, {Op: 0x1000006}, {Op: api.RetA - 0x10000}, {Op: math.MinInt}, {Op: math.MaxInt},
	{Op: api.Tax, K: 1}, {Op: api.Tax, Jt: 1}, {Op: api.Tax, Jf: 1}, {Op: api.Tax, Jt: 256}, {Op: api.Tax, Jf: -256}, {Op: api.XorX, K: 0x80000000},
	{Op: api.RetK, Jt: 1}, {Op: api.RetK, Jf: 255}, {Op: api.Ja, Jt: 256}, {Op: api.LdImm, Jf: math.MinInt}, {Op: api.AddK, Jt: 0x100},
	{Op: api.JeqX, K: 1}, {Op: api.JeqX, Jt: 256}, {Op: api.JsetX, Jf: -1},
	{Op: api.JeqK, Jt: 256}, {Op: api.JeqK, Jf: 256}, {Op: api.JgtK, Jt: -1}, {Op: api.JgeK, Jf: -255}, {Op: api.JsetK, Jt: math.MaxInt}, {Op: api.JsetK, Jf: math.MinInt},
}

// eachValid calls f with instructions of every operation, with their fields at the edges.
func eachValid(f func(x api.Ins)) {
	ks := []uint32{0, 1, 10, 0x7f, 0x80, 0xff, 0x100, 0xff00, 0xff0000, 0xff000000, 0x01020304, 0x0a0a0a0a, 0x7fff0000, 0x80000000, 0xfffffffe, 0xffffffff}
	jumps := []int{0, 1, 10, 127, 128, 254, 255}
	for op := range 256 {
		fields, ok := operations[op]
		if !ok {
			continue
		}
		for _, k := range ks {
			for _, jt := range jumps {
				for _, jf := range jumps {
					hasK, hasJumps := fields&onlyK != 0, fields&onlyJumps != 0
					if (hasK || k == 0) && (hasJumps || jt == 0 && jf == 0) {
						f(api.Ins{Op: op, Jt: jt, Jf: jf, K: k})
					}
				}
			}
		}
	}
}

// allValid are the instructions of eachValid.
func allValid() []api.Ins {
	var all []api.Ins
	eachValid(func(x api.Ins) { all = append(all, x) })
	return all
}

// some answers a filter of n valid instructions, which differs by the seed.
func some(n, seed int) []api.Ins {
	all := allValid()
	f := make([]api.Ins, n)
	state := uint32(seed)*2654435761 + 1
	for i := range f {
		state = state*1664525 + 1013904223
		f[i] = all[int(state>>8)%len(all)]
	}
	return f
}

// bytesOf writes an encoding in another way than the program.
func bytesOf(f []api.Ins) []byte {
	var b []byte
	for _, x := range f {
		b = binary.LittleEndian.AppendUint16(b, uint16(x.Op))
		b = append(b, byte(x.Jt), byte(x.Jf))
		b = binary.LittleEndian.AppendUint32(b, x.K)
	}
	return b
}

// textOf writes a text in another way than the program.
func textOf(f []api.Ins) string {
	lines := make([]string, 0, len(f)+1)
	for _, x := range f {
		s, _ := ins.Print(x)
		lines = append(lines, s)
	}
	return strings.Join(append(lines, ""), "\n")
}

// head keeps the messages about long filters short.
func head(f []api.Ins) []api.Ins {
	return f[:min(len(f), 5)]
}

// wantFilter holds all calls against what they must answer for a filter.
func wantFilter(t *testing.T, f []api.Ins) {
	t.Helper()
	if !codec.Right(f) {
		t.Errorf("Right(%d: %+v): false", len(f), head(f))
	}
	wantBytes(t, f, bytesOf(f))
	wantText(t, f, textOf(f))
}

func wantBytes(t *testing.T, f []api.Ins, want []byte) {
	t.Helper()
	b, e := codec.Encode(f)
	if !bytes.Equal(b, want) || e != api.OK {
		t.Errorf("Encode(%d: %+v): % .40x, %d; want % .40x", len(f), head(f), b, e, want)
	}
	if len(b) != 8*len(f) {
		t.Errorf("Encode(%d: %+v): %d bytes", len(f), head(f), len(b))
	}
	if g, e := codec.Decode(want); !slices.Equal(g, f) || e != api.OK {
		t.Errorf("Decode(% .40x): %+v, %d; want %+v", want, head(g), e, head(f))
	}
}

func wantText(t *testing.T, f []api.Ins, want string) {
	t.Helper()
	if s, e := codec.Print(f); s != want || e != api.OK {
		t.Errorf("Print(%d: %+v): %.80q, %d; want %.80q", len(f), head(f), s, e, want)
	}
	if g, at, e := codec.Parse(want); !slices.Equal(g, f) || at != 0 || e != api.OK {
		t.Errorf("Parse(%.80q): %+v, %d, %d; want %+v, 0, OK", want, head(g), at, e, head(f))
	}
}

// wantNoFilter: f is none, and Encode and Print say why.
func wantNoFilter(t *testing.T, f []api.Ins, want api.Errno) {
	t.Helper()
	if codec.Right(f) {
		t.Errorf("Right(%d: %+v): true", len(f), head(f))
	}
	if b, e := codec.Encode(f); len(b) != 0 || e != want {
		t.Errorf("Encode(%d: %+v): % .40x, %d; want none, %d", len(f), head(f), b, e, want)
	}
	if s, e := codec.Print(f); s != "" || e != want {
		t.Errorf("Print(%d: %+v): %.80q, %d; want none, %d", len(f), head(f), s, e, want)
	}
}

func wantNoBytes(t *testing.T, b []byte, want api.Errno) {
	t.Helper()
	if f, e := codec.Decode(b); len(f) != 0 || e != want {
		t.Errorf("Decode(%d: % .40x): %+v, %d; want none, %d", len(b), b, head(f), e, want)
	}
}

func wantNoText(t *testing.T, s string, line int, want api.Errno) {
	t.Helper()
	if f, at, e := codec.Parse(s); len(f) != 0 || at != line || e != want {
		t.Errorf("Parse(%d: %.80q): %+v, %d, %d; want none, %d, %d", len(s), s, head(f), at, e, line, want)
	}
}

// The list that the tests hold the program against is that of valid instructions.
func TestListIsWhole(t *testing.T) {
	if len(operations) != 39 {
		t.Errorf("%d operations; want 39", len(operations))
	}
	seen := map[int]bool{}
	eachValid(func(x api.Ins) {
		seen[x.Op] = true
		if !ins.Right(x) {
			t.Errorf("%+v is not valid", x)
		}
	})
	if len(seen) != 39 {
		t.Errorf("%d operations asked; want 39", len(seen))
	}
	for _, x := range wrong {
		if ins.Right(x) {
			t.Errorf("%+v is valid", x)
		}
	}
}

// P3.1, P3.2: the examples of the chapter, and other filters whose bytes and texts are written out.
func TestExamples(t *testing.T) {
	for _, c := range []struct {
		f    []api.Ins
		b    string
		text string
	}{
		{nil, "", ""},
		{[]api.Ins{}, "", ""},
		{[]api.Ins{{Op: api.RetK, K: 0x7fff0000}}, "\x06\x00\x00\x00\x00\x00\xff\x7f", "ret 0x7fff0000\n"},
		{[]api.Ins{{Op: api.JeqK, K: 5, Jt: 1}}, "\x15\x00\x01\x00\x05\x00\x00\x00", "jeq 0x5 0x1 0x0\n"},
		{[]api.Ins{{Op: api.JsetK, K: 0x01020304, Jt: 254, Jf: 255}}, "\x45\x00\xfe\xff\x04\x03\x02\x01", "jset 0x1020304 0xfe 0xff\n"},
		{[]api.Ins{{Op: api.JgeX, Jt: 2, Jf: 3}}, "\x3d\x00\x02\x03\x00\x00\x00\x00", "jgex 0x2 0x3\n"},
		{[]api.Ins{{Op: api.XorX}}, "\xac\x00\x00\x00\x00\x00\x00\x00", "xorx\n"},
		{[]api.Ins{{}}, "\x00\x00\x00\x00\x00\x00\x00\x00", "ld 0x0\n"},
		{
			[]api.Ins{{Op: api.LdAbs, K: 4}, {Op: api.JeqK, K: 0xc000003e, Jf: 1}, {Op: api.RetK, K: api.Allow}, {Op: api.RetK, K: api.Kill}},
			"\x20\x00\x00\x00\x04\x00\x00\x00" + "\x15\x00\x00\x01\x3e\x00\x00\xc0" + "\x06\x00\x00\x00\x00\x00\xff\x7f" + "\x06\x00\x00\x00\x00\x00\x00\x00",
			"abs 0x4\njeq 0xc000003e 0x0 0x1\nret 0x7fff0000\nret 0x0\n",
		},
		// A filter need not be sound.
		{[]api.Ins{{Op: api.DivK}, {Op: api.Ja, K: 0xffffffff}}, "\x34\x00\x00\x00\x00\x00\x00\x00\x05\x00\x00\x00\xff\xff\xff\xff", "div 0x0\nja 0xffffffff\n"},
	} {
		wantBytes(t, c.f, []byte(c.b))
		wantText(t, c.f, c.text)
		wantFilter(t, c.f)
	}
}

// P3.1, P3.2: every operation, with its fields at their edges, alone and in a filter.
func TestEveryOperation(t *testing.T) {
	eachValid(func(x api.Ins) {
		wantFilter(t, []api.Ins{x})
		wantFilter(t, []api.Ins{{Op: api.Tax}, x, {Op: api.RetA}})
	})
}

// P3.1, P3.2: every pair of jumps has a byte each.
func TestEveryJump(t *testing.T) {
	for _, op := range []int{api.JeqK, api.JgtK, api.JgeK, api.JsetK, api.JeqX, api.JgtX, api.JgeX, api.JsetX} {
		for jt := range 256 {
			var f []api.Ins
			for jf := range 256 {
				f = append(f, api.Ins{Op: op, Jt: jt, Jf: jf})
			}
			wantFilter(t, f)
		}
	}
}

// P3.1, P3.2: a filter has at most MaxIns instructions.
func TestLengths(t *testing.T) {
	for _, n := range []int{0, 1, 2, 3, 255, 256, 257, 4094, 4095, 4096} {
		wantFilter(t, some(n, n))
		wantFilter(t, slices.Repeat([]api.Ins{{Op: api.RetA}}, n))
	}
	for _, n := range []int{4097, 4098, 8192, 65536, 1 << 20} {
		f := slices.Repeat([]api.Ins{{Op: api.RetA}}, n)
		wantNoFilter(t, f, api.ErrFull)
		wantNoBytes(t, bytesOf(f), api.ErrFull)
		wantNoText(t, textOf(f), 4096, api.ErrFull)
	}
}

// P3.1, P0 (R1): an instruction that is not valid, anywhere in the list.
func TestWrongInstructions(t *testing.T) {
	for _, x := range wrong {
		wantNoFilter(t, []api.Ins{x}, api.ErrArg)
		wantNoFilter(t, []api.Ins{x, x}, api.ErrArg)
		wantNoFilter(t, []api.Ins{x, {Op: api.RetA}}, api.ErrArg)
		wantNoFilter(t, []api.Ins{{Op: api.RetA}, x}, api.ErrArg)
		wantNoFilter(t, []api.Ins{{Op: api.Tax}, x, {Op: api.RetA}}, api.ErrArg)
		for _, at := range []int{0, 1, 2048, 4094, 4095} {
			f := some(4096, at)
			f[at] = x
			wantNoFilter(t, f, api.ErrArg)
		}
	}
}

// P3.1, P0 (R2): too many instructions come before one that is not valid.
func TestFullComesBeforeWrong(t *testing.T) {
	for _, x := range wrong {
		for _, at := range []int{0, 4095, 4096} {
			f := some(4097, at)
			f[at] = x
			wantNoFilter(t, f, api.ErrFull)
		}
	}
}

// P3.1: the number of bytes, and which error comes first.
func TestDecodeLengths(t *testing.T) {
	right, bad := bytesOf(some(4200, 1)), bytes.Repeat([]byte{0xff}, 33600)
	for n := range 33600 {
		if n > 100 && n < 32700 && n%991 > 16 {
			continue
		}
		switch {
		case n > 32768:
			wantNoBytes(t, right[:n], api.ErrFull)
			wantNoBytes(t, bad[:n], api.ErrFull)
		case n%8 != 0:
			wantNoBytes(t, right[:n], api.ErrMore)
			wantNoBytes(t, bad[:n], api.ErrMore)
		case n > 0:
			wantBytes(t, some(4200, 1)[:n/8], right[:n])
			wantNoBytes(t, bad[:n], api.ErrForm)
		}
	}
}

// P3.1: a first instruction that is whole but wrong, or right, and one that is cut off.
func TestDecodeCutOff(t *testing.T) {
	for n := 1; n < 8; n++ {
		wantNoBytes(t, []byte("\x08\x00\x00\x00\x00\x00\x00\x00\x16\x00\x00\x00\x00\x00\x00\x00")[:8+n], api.ErrMore)
		wantNoBytes(t, []byte("\x16\x00\x00\x00\x00\x00\x00\x00\x08\x00\x00\x00\x00\x00\x00\x00")[:8+n], api.ErrMore)
		wantNoBytes(t, make([]byte, n), api.ErrMore)
	}
}

// wantDecoded holds Decode of eight bytes against the list of the tests.
func wantDecoded(t *testing.T, b []byte) bool {
	t.Helper()
	op := int(b[0]) + 256*int(b[1])
	x := api.Ins{Op: op, Jt: int(b[2]), Jf: int(b[3]), K: uint32(b[4]) + uint32(b[5])*0x100 + uint32(b[6])*0x10000 + uint32(b[7])*0x1000000}
	fields, ok := operations[op]
	if fields&onlyK == 0 && x.K != 0 || fields&onlyJumps == 0 && (x.Jt != 0 || x.Jf != 0) {
		ok = false
	}
	if !ok {
		wantNoBytes(t, b, api.ErrForm)
		return false
	}
	if f, e := codec.Decode(b); len(f) != 1 || f[0] != x || e != api.OK {
		t.Errorf("Decode(% x): %+v, %d; want %+v", b, f, e, x)
	}
	if back, e := codec.Encode([]api.Ins{x}); !bytes.Equal(back, b) || e != api.OK {
		t.Errorf("Encode(%+v): % x, %d; want % x", x, back, e, b)
	}
	return true
}

// P3.1: every two bytes as an operation.
func TestDecodeEveryOperation(t *testing.T) {
	read := 0
	for op := range 0x10000 {
		for _, fields := range []string{"\x00\x00\x00\x00\x00\x00", "\x01\x02\x00\x00\x00\x00", "\x00\x00\x03\x04\x05\x06", "\x01\x02\x03\x04\x05\x06"} {
			if wantDecoded(t, append([]byte{byte(op), byte(op >> 8)}, fields...)) {
				read++
			}
		}
	}
	// 13 with one of the fields, 18 and 4 with two, 4 with four.
	if want := 13 + 2*18 + 2*4 + 4*4; read != want {
		t.Errorf("%d instructions were read; want %d", read, want)
	}
}

// P3.1: every byte, in each place of every operation's bytes.
func TestDecodeEveryByte(t *testing.T) {
	for op := range operations {
		for at := range 8 {
			for c := range 256 {
				b := []byte{byte(op), 0, 0, 0, 0, 0, 0, 0}
				b[at] = byte(c)
				wantDecoded(t, b)
			}
		}
	}
}

// P3.1: eight bytes that are wrong, anywhere among right ones.
func TestDecodeWrongAnywhere(t *testing.T) {
	for _, x := range []string{
		"\x08\x00\x00\x00\x00\x00\x00\x00", "\x06\x01\x00\x00\x00\x00\x00\x00", "\x06\x00\x01\x00\x00\x00\x00\x00", "\x06\x00\x00\x01\x00\x00\x00\x00",
		"\x16\x00\x00\x00\x01\x00\x00\x00", "\x16\x00\x00\x00\x00\x00\x00\x01", "\x1d\x00\x01\x01\x00\x00\x80\x00", "\xff\xff\xff\xff\xff\xff\xff\xff",
		// The bytes of one instruction, shifted or in another order.
		"\x00\x15\x00\x01\x00\x05\x00\x00", "\x00\x15\x01\x00\x00\x00\x00\x05", "\x00\x00\x00\x15\x00\x01\x00\x05",
	} {
		for _, n := range []int{1, 2, 3, 10, 4096} {
			for _, at := range []int{0, 1, n / 2, n - 1} {
				if at >= n {
					continue
				}
				b := bytesOf(some(n, at))
				copy(b[8*at:], x)
				wantNoBytes(t, b, api.ErrForm)
			}
		}
	}
}

// P3.2: which line is told, and with which error.
func TestParseTellsTheLine(t *testing.T) {
	const tax = "tax\n"
	for _, c := range []struct {
		s    string
		line int
		want api.Errno
	}{
		// A line without its end is wrong, even if it is an instruction's text.
		{"tax", 0, api.ErrForm}, {"t", 0, api.ErrForm}, {"hay", 0, api.ErrForm}, {" ", 0, api.ErrForm}, {"tax\ntxa", 1, api.ErrForm}, {"tax\n ", 1, api.ErrForm}, {"tax\nhay", 1, api.ErrForm},
		// An empty line is a line.
		{"\n", 0, api.ErrForm}, {"\n\n", 0, api.ErrForm}, {"\ntax\n", 0, api.ErrForm}, {"tax\n\n", 1, api.ErrForm}, {"tax\n\ntax\n", 1, api.ErrForm}, {"tax\ntxa\n\n\n", 2, api.ErrForm},
		// The first wrong line counts.
		{"hay\n", 0, api.ErrForm}, {"tax\nhay\n", 1, api.ErrForm}, {"hay\ntax\n", 0, api.ErrForm}, {"hay\nhay\n", 0, api.ErrForm}, {"tax\nhay\ntax\nhay\ntax", 1, api.ErrForm}, {"tax\nhay\ntax", 1, api.ErrForm}, {"tax\ntax\ntax\nhay\n", 3, api.ErrForm},
		// Only a line feed ends a line, and nothing stands between it and the text.
		{"tax\r\n", 0, api.ErrForm}, {"tax\rtxa\n", 0, api.ErrForm}, {"tax\n\rtxa\n", 1, api.ErrForm}, {"tax \n", 0, api.ErrForm}, {" tax\n", 0, api.ErrForm}, {"tax\n tax\n", 1, api.ErrForm}, {"tax\t\n", 0, api.ErrForm},
		{"tax\x00", 0, api.ErrForm}, {"tax\x00\n", 0, api.ErrForm}, {"tax\n\x00", 1, api.ErrForm}, {"tax\n\x00\n", 1, api.ErrForm}, {"tax\\n", 0, api.ErrForm}, {"tax\vtxa\n", 0, api.ErrForm}, {"tax\ftxa\n", 0, api.ErrForm},
		{"tax\u0085txa\n", 0, api.ErrForm}, {"tax\u2028txa\n", 0, api.ErrForm}, {"tax\u2029txa\n", 0, api.ErrForm}, {"tax\u010a", 0, api.ErrForm}, {"tax\u0a0a", 0, api.ErrForm}, {"tax;txa\n", 0, api.ErrForm},
		{"\ufefftax\n", 0, api.ErrForm}, {"tax\xff\n", 0, api.ErrForm}, {"\xff\n", 0, api.ErrForm}, {"tax\n\xff", 1, api.ErrForm}, {"tax\n\xc3\ntax\n", 1, api.ErrForm}, {"tax\xe2\x80\ntxa\n", 0, api.ErrForm}, {"tax\n\xf0\n", 1, api.ErrForm},
		// Nothing but lines of instructions: neither a remark nor a label.
		{"# tax\n", 0, api.ErrForm}, {"tax\ntax # again\n", 1, api.ErrForm}, {"0: tax\n", 0, api.ErrForm}, {"tax\n// end\n", 1, api.ErrForm},
		// Lines that are no instruction's.
		{"ld 5\n", 0, api.ErrForm}, {"tax\nret 0x100000000\n", 1, api.ErrForm}, {"jeq 0x5 0x1\n0x0\n", 0, api.ErrForm}, {"ld\n0x1\n", 0, api.ErrForm}, {"TAX\n", 0, api.ErrForm}, {"jeq 0x5 0x100 0x0\n", 0, api.ErrForm},
		// At the limit and beyond it.
		{strings.Repeat(tax, 4095) + "tax", 4095, api.ErrForm}, {strings.Repeat(tax, 4095) + "\n", 4095, api.ErrForm}, {strings.Repeat(tax, 4095) + "hay\n", 4095, api.ErrForm}, {strings.Repeat(tax, 4095) + "hay\n" + tax, 4095, api.ErrForm},
		{strings.Repeat(tax, 4096) + "tax", 4096, api.ErrFull}, {strings.Repeat(tax, 4096) + "\n", 4096, api.ErrFull}, {strings.Repeat(tax, 4096) + "hay\n", 4096, api.ErrFull}, {strings.Repeat(tax, 4096) + "h", 4096, api.ErrFull}, {strings.Repeat(tax, 4096) + "\x00", 4096, api.ErrFull},
		{strings.Repeat(tax, 4097), 4096, api.ErrFull}, {strings.Repeat(tax, 4098), 4096, api.ErrFull}, {strings.Repeat(tax, 5000) + "hay\n", 4096, api.ErrFull}, {strings.Repeat(tax, 9000) + "tax", 4096, api.ErrFull},
		{"hay\n" + strings.Repeat(tax, 5000), 0, api.ErrForm}, {tax + "hay\n" + strings.Repeat(tax, 5000), 1, api.ErrForm}, {strings.Repeat(tax, 2000) + "\n" + strings.Repeat(tax, 5000), 2000, api.ErrForm}, {strings.Repeat("\n", 5000), 0, api.ErrForm}, {strings.Repeat("hay\n", 5000), 0, api.ErrForm},
		// A long line, and many parts of one.
		{tax + strings.Repeat("tax", 100000), 1, api.ErrForm}, {tax + strings.Repeat("tax ", 100000) + "\n" + tax, 1, api.ErrForm}, {"ld 0x" + strings.Repeat("0", 100000) + "\n", 0, api.ErrForm}, {strings.Repeat(" ", 100000) + "\n", 0, api.ErrForm},
	} {
		wantNoText(t, c.s, c.line, c.want)
	}
}

// P3.2: a wrong line at each place of a text.
func TestParseWrongAnywhere(t *testing.T) {
	lines := strings.SplitAfter(textOf(some(40, 3)), "\n")
	for at := range 40 {
		for _, bad := range []string{"\n", "hay\n", "ld\n", " \n", "tax \n", "tax\r\n"} {
			wantNoText(t, strings.Join(lines[:at], "")+bad+strings.Join(lines[at:], ""), at, api.ErrForm)
			wantNoText(t, strings.Join(lines[:at], "")+bad, at, api.ErrForm)
			wantNoText(t, strings.Join(lines[:at], "")+bad+bad, at, api.ErrForm)
		}
	}
}

// expect reads a text in another way than the program.
func expect(s string) ([]api.Ins, int, api.Errno) {
	lines := strings.SplitAfter(s, "\n")
	if lines[len(lines)-1] == "" {
		lines = lines[:len(lines)-1]
	}
	var f []api.Ins
	for i, line := range lines {
		if i >= 4096 {
			return nil, i, api.ErrFull
		}
		if line[len(line)-1] != 10 {
			return nil, i, api.ErrForm
		}
		x, e := ins.Parse(line[:len(line)-1])
		if e != api.OK {
			return nil, i, api.ErrForm
		}
		f = append(f, x)
	}
	return f, 0, api.OK
}

// wantAsExpected holds Parse against expect, and, where the text is read, Print against the text (P3.3).
func wantAsExpected(t *testing.T, s string) bool {
	t.Helper()
	want, line, errno := expect(s)
	f, at, e := codec.Parse(s)
	if !slices.Equal(f, want) || at != line || e != errno {
		t.Errorf("Parse(%.80q): %+v, %d, %d; want %+v, %d, %d", s, head(f), at, e, head(want), line, errno)
	}
	if e != api.OK {
		return false
	}
	if back, e := codec.Print(f); back != s || e != api.OK {
		t.Errorf("Print(Parse(%.80q)): %.80q, %d", s, back, e)
	}
	return true
}

// P3.2, P3.3: texts by one change beside a filter's.
func TestParseNearTexts(t *testing.T) {
	const s = "abs 0x4\njeq 0x10 0x1 0x2\ntax\nxorx\njgtx 0xff 0x0\nret 0x7fff0000\nreta\n"
	read := 0
	ask := func(s string) {
		if wantAsExpected(t, s) {
			read++
		}
	}
	for at := range len(s) + 1 {
		for c := range 256 {
			one := string([]byte{byte(c)})
			ask(s[:at] + one + s[at:])
			if at < len(s) {
				ask(s[:at] + one + s[at+1:])
			}
		}
		for _, c := range []string{"\n\n", "\r\n", "tax\n", "\ntax", "é", "\u0085", "\u2028", "\ufffd"} {
			ask(s[:at] + c + s[at:])
		}
		if at < len(s) {
			ask(s[:at] + s[at+1:])
		}
		ask(s[:at])
		ask(s[at:])
	}
	if read == 0 {
		t.Error("no text was read")
	}
}

// P3.2, P3.3: every short text of some bytes.
func TestParseShortTexts(t *testing.T) {
	const letters = "atx\n "
	read := 0
	var grow func(s string)
	grow = func(s string) {
		if wantAsExpected(t, s) {
			read++
		}
		if len(s) == 8 {
			return
		}
		for _, c := range letters {
			grow(s + string(c))
		}
	}
	grow("")
	// The empty one, tax and txa, and two of these.
	if read != 1+2+4 {
		t.Errorf("%d texts were read; want 7", read)
	}
}

// P3.3: the calls that write and those that read reverse each other, in both directions.
func TestInverse(t *testing.T) {
	for seed := range 300 {
		f := some(seed%60, seed)
		if seed%100 == 99 {
			f = some(4096, seed)
		}
		b, e := codec.Encode(f)
		if len(b) != 8*len(f) || e != api.OK {
			t.Fatalf("Encode of %d: %d bytes, %d", len(f), len(b), e)
		}
		g, e := codec.Decode(b)
		if !slices.Equal(g, f) || e != api.OK {
			t.Errorf("Decode(Encode(%+v)): %+v, %d", head(f), head(g), e)
		}
		if again, e := codec.Encode(g); !bytes.Equal(again, b) || e != api.OK {
			t.Errorf("Encode(Decode(% .40x)): % .40x, %d", b, again, e)
		}
		s, e := codec.Print(f)
		if e != api.OK {
			t.Fatalf("Print of %d: %d", len(f), e)
		}
		g, at, e := codec.Parse(s)
		if !slices.Equal(g, f) || at != 0 || e != api.OK {
			t.Errorf("Parse(Print(%+v)): %+v, %d, %d", head(f), head(g), at, e)
		}
		if again, e := codec.Print(g); again != s || e != api.OK {
			t.Errorf("Print(Parse(%.80q)): %.80q, %d", s, again, e)
		}
	}
}

// P3.4: two filters behind each other have their bytes, and their texts, behind each other.
func TestConcatenation(t *testing.T) {
	for _, c := range [][2]int{{0, 0}, {0, 1}, {1, 0}, {1, 1}, {2, 3}, {5, 0}, {17, 30}, {100, 1}, {0, 4096}, {4096, 0}, {1, 4095}, {2048, 2048}} {
		f, g := some(c[0], 1), some(c[1], 2)
		fb, _ := codec.Encode(f)
		gb, _ := codec.Encode(g)
		if b, e := codec.Encode(slices.Concat(f, g)); !bytes.Equal(b, slices.Concat(fb, gb)) || e != api.OK {
			t.Errorf("Encode of %d and %d: %d bytes, %d", c[0], c[1], len(b), e)
		}
		if h, e := codec.Decode(slices.Concat(fb, gb)); !slices.Equal(h, slices.Concat(f, g)) || e != api.OK {
			t.Errorf("Decode of %d and %d: %d instructions, %d", c[0], c[1], len(h), e)
		}
		fs, _ := codec.Print(f)
		gs, _ := codec.Print(g)
		if s, e := codec.Print(slices.Concat(f, g)); s != fs+gs || e != api.OK {
			t.Errorf("Print of %d and %d: %d bytes, %d", c[0], c[1], len(s), e)
		}
		if h, at, e := codec.Parse(fs + gs); !slices.Equal(h, slices.Concat(f, g)) || at != 0 || e != api.OK {
			t.Errorf("Parse of %d and %d: %d instructions, %d, %d", c[0], c[1], len(h), at, e)
		}
	}
	for _, c := range [][2]int{{1, 4096}, {4096, 1}, {4096, 4096}, {2049, 2048}} {
		wantNoFilter(t, slices.Concat(some(c[0], 1), some(c[1], 2)), api.ErrFull)
	}
}

// P0 (R3): arguments are left as they are, with what lies behind their ends.
func TestArgumentsAreLeft(t *testing.T) {
	for _, n := range []int{0, 1, 3, 4096, 4097} {
		f := some(n+8, 5)
		if n > 1 {
			f[1] = api.Ins{Op: -1, Jt: -2, Jf: -3, K: 4}
		}
		before := slices.Clone(f)
		codec.Right(f[:n])
		codec.Encode(f[:n])
		codec.Print(f[:n])
		if !slices.Equal(f, before) {
			t.Errorf("a list of %d instructions was changed", n)
		}
		b := bytesOf(some(n+8, 6))
		was := bytes.Clone(b)
		for _, cut := range []int{8 * n, 8*n + 3} {
			codec.Decode(b[:cut])
		}
		if !bytes.Equal(b, was) {
			t.Errorf("%d bytes were changed", 8*n)
		}
	}
}

// scribble writes over all memory that a result has, up to its capacity.
func scribble[T any](list []T, v T) {
	list = list[:cap(list)]
	for i := range list {
		list[i] = v
	}
}

// P0 (R3): results are new: what is written over them, or behind them, is seen nowhere else.
func TestResultsAreNew(t *testing.T) {
	for _, n := range []int{1, 2, 5, 100, 4096} {
		want := some(n, 7)
		f, b, s := slices.Clone(want), bytesOf(want), textOf(want)
		encoded, _ := codec.Encode(f)
		decoded, _ := codec.Decode(b)
		parsed, _, _ := codec.Parse(s)
		for range 2 {
			out, _ := codec.Encode(f)
			scribble(out, 0xee)
			list, _ := codec.Decode(b)
			scribble(list, api.Ins{Op: 8})
			list, _, _ = codec.Parse(s)
			scribble(list, api.Ins{Op: 9})
		}
		if !slices.Equal(f, want) || !bytes.Equal(b, bytesOf(want)) {
			t.Errorf("a result shares memory with an argument, of %d instructions", n)
		}
		if !bytes.Equal(encoded, bytesOf(want)) || !slices.Equal(decoded, want) || !slices.Equal(parsed, want) {
			t.Errorf("two results share memory, of %d instructions", n)
		}
	}
}

// P0 (R3): arguments are not kept: a later change of them changes no result.
func TestArgumentsAreNotKept(t *testing.T) {
	f := some(20, 8)
	b := bytesOf(f)
	out, _ := codec.Encode(f)
	decoded, _ := codec.Decode(b)
	clear(f)
	clear(b)
	if !bytes.Equal(out, bytesOf(some(20, 8))) || !slices.Equal(decoded, some(20, 8)) {
		t.Error("a result changed with an argument")
	}
}

// P0 (R3): nil and empty are alike.
func TestNilAndEmpty(t *testing.T) {
	for _, f := range [][]api.Ins{nil, {}, make([]api.Ins, 0, 5)} {
		wantFilter(t, f)
	}
	for _, b := range [][]byte{nil, {}, make([]byte, 0, 5)} {
		if f, e := codec.Decode(b); len(f) != 0 || e != api.OK {
			t.Errorf("Decode of nothing: %v, %d", f, e)
		}
	}
}

// P0 (R4): a call's result does not hang on the calls before it.
func TestCallsAreRepeatable(t *testing.T) {
	for range 3 {
		wantFilter(t, some(50, 9))
		wantNoFilter(t, []api.Ins{{Op: 8}}, api.ErrArg)
		wantNoBytes(t, make([]byte, 9), api.ErrMore)
		wantNoText(t, "tax\nhay\n", 1, api.ErrForm)
		wantNoText(t, strings.Repeat("tax\n", 4097), 4096, api.ErrFull)
		wantFilter(t, nil)
	}
}

// FuzzParse holds Parse against the tests' own reading, on any bytes.
func FuzzParse(f *testing.F) {
	for _, s := range []string{"", "tax\n", "tax", "\n", "ld 0x1\nret 0x0\n", "tax\r\n", "jeq 0x5 0x1 0x0\n\xff"} {
		f.Add(s)
	}
	f.Add(strings.Repeat("tax\n", 4097))
	f.Fuzz(func(t *testing.T, s string) { wantAsExpected(t, s) })
}

// FuzzDecode holds Decode against Right and the way back, on any bytes.
func FuzzDecode(f *testing.F) {
	for _, n := range []int{0, 1, 2, 10} {
		f.Add(bytesOf(some(n, n)))
		f.Add(append(bytesOf(some(n, n)), 0))
	}
	f.Fuzz(func(t *testing.T, b []byte) {
		got, e := codec.Decode(b)
		switch {
		case len(b) > 32768:
			wantNoBytes(t, b, api.ErrFull)
		case len(b)%8 != 0:
			wantNoBytes(t, b, api.ErrMore)
		case e == api.OK:
			if !bytes.Equal(bytesOf(got), b) {
				t.Errorf("Decode(% x): %+v", b, got)
			}
			wantFilter(t, got)
		default:
			right := true
			for i := 0; i < len(b); i += 8 {
				right = wantDecoded(t, b[i:i+8]) && right
			}
			if right || e != api.ErrForm || len(got) != 0 {
				t.Errorf("Decode(% x): %+v, %d", b, got, e)
			}
		}
	})
}
