package live_test

import (
	"encoding/binary"
	"math"
	"slices"
	"testing"

	"hurdle/api"
	"hurdle/check"
	"hurdle/codec"
	"hurdle/live"
	"hurdle/run"
)

// The tests' own numbers, written out: they are what the document names.
const (
	mostIns  = 4096
	cells    = 16
	parts    = 18
	bitA     = 1
	bitX     = 2
	bitCell  = 4 // cell 0's; each further cell has the next bit
	mostJump = 255
)

var (
	bare     = []int{api.Neg, api.Tax, api.Txa, api.RetA}
	free     = []int{api.LdImm, api.LdxImm, api.RetK}
	cellOps  = []int{api.St, api.Stx, api.LdMem, api.LdxMem}
	aluKs    = []int{api.AddK, api.SubK, api.MulK, api.DivK, api.OrK, api.AndK, api.LshK, api.RshK, api.XorK}
	aluXs    = []int{api.AddX, api.SubX, api.MulX, api.DivX, api.OrX, api.AndX, api.LshX, api.RshX, api.XorX}
	branchKs = []int{api.JeqK, api.JgtK, api.JgeK, api.JsetK}
	branchXs = []int{api.JeqX, api.JgtX, api.JgeX, api.JsetX}
	every    = slices.Concat(bare, free, cellOps, aluKs, aluXs, branchKs, branchXs, []int{api.LdAbs, api.Ja})

	// ks are numbers at which the number of a cell, or the bit that it has, may go wrong.
	ks = []uint32{
		0, 1, 2, 3, 7, 8, 13, 14, 15, 16, 17, 18, 28, 29, 30, 31, 32, 33, 47, 48, 62, 63, 64, 65, 127, 128, 255, 256, 257, 0xffff, 0x10000, 0x10001, 0x1000000,
		0x7fffffff, 0x80000000, 0x80000001, 0xffffff00, 0xfffffff0, 0xfffffffe, 0xffffffff,
	}

	// noOps are no operation's numbers; some would be one's if they were cut to fewer bits.
	noOps = []int{8, 9, 0x0d, 0x1f, 0x21, 0x30, 0x94, 0x9c, 0xb4, 0xff, 0x100, 0x101, 0x102, 0x107, 0x11d, 0x160, 0x184, 0x10002, 0x10003, 0x10061, 1<<32 + api.St, 1<<32 + api.Txa, -1, -8, api.Tax - 0x100, math.MinInt, math.MinInt + api.Neg, math.MaxInt}
)

func among(op int, lists ...[]int) bool {
	return slices.Contains(slices.Concat(lists...), op)
}

// uses: does an instruction use a part? It reads the document part by part.
func uses(x api.Ins, part int) bool {
	switch part {
	case 0:
		return among(x.Op, []int{api.St, api.Tax, api.Neg, api.RetA}, aluKs, aluXs, branchKs, branchXs)
	case 1:
		return among(x.Op, []int{api.Stx, api.Txa}, aluXs, branchXs)
	}
	return (x.Op == api.LdMem || x.Op == api.LdxMem) && int64(x.K) == int64(part)-2
}

// sets: does an instruction set a part?
func sets(x api.Ins, part int) bool {
	switch part {
	case 0:
		return among(x.Op, []int{api.LdImm, api.LdAbs, api.LdMem, api.Txa, api.Neg}, aluKs, aluXs)
	case 1:
		return x.Op == api.LdxImm || x.Op == api.LdxMem || x.Op == api.Tax
	}
	return (x.Op == api.St || x.Op == api.Stx) && int64(x.K) == int64(part)-2
}

// mask answers the parts of which something is true.
func mask(x api.Ins, is func(x api.Ins, part int) bool) uint32 {
	out := uint32(0)
	for part := range parts {
		if is(x, part) {
			out += uint32(math.Pow(2, float64(part)))
		}
	}
	return out
}

// expect answers what At must for a sound filter: each part floods, from the instructions that use it, to those from
// which a run may get there, until it is set.
func expect(f []api.Ins) []uint32 {
	from := make([][]int, len(f))
	for at := range f {
		for _, to := range check.Next(f, at) {
			from[to] = append(from[to], at)
		}
	}
	masks := make([]uint32, len(f))
	for part := range parts {
		var todo []int
		mark := func(at int) {
			if masks[at]>>part%2 == 0 {
				masks[at] |= 1 << part
				todo = append(todo, at)
			}
		}
		for at, x := range f {
			if uses(x, part) {
				mark(at)
			}
		}
		for len(todo) > 0 {
			at := todo[0]
			todo = todo[1:]
			for _, before := range from[at] {
				if !sets(f[before], part) {
					mark(before)
				}
			}
		}
	}
	return masks
}

// head keeps the messages about long filters short.
func head[T any](l []T) []T {
	return l[:min(len(l), 8)]
}

// wantAt holds At against what it must answer.
func wantAt(t *testing.T, f []api.Ins, want []uint32) {
	t.Helper()
	if got, e := live.At(f); !slices.Equal(got, want) || e != api.OK {
		t.Errorf("At(%d: %+v): %d: %#x, %d; want %d: %#x", len(f), head(f), len(got), head(got), e, len(want), head(want))
	}
}

// wantBehind holds Behind against what it must answer.
func wantBehind(t *testing.T, f []api.Ins, at int, want uint32) {
	t.Helper()
	if got, e := live.Behind(f, at); got != want || e != api.OK {
		t.Errorf("Behind(%d: %+v, %d): %#x, %d; want %#x", len(f), head(f), at, got, e, want)
	}
}

// wantNoBehind: there is nothing behind an index, wherever one asks.
func wantNoBehind(t *testing.T, f []api.Ins, ats ...int) {
	t.Helper()
	for _, at := range ats {
		if got, e := live.Behind(f, at); got != 0 || e != api.ErrArg {
			t.Errorf("Behind(%d: %+v, %d): %#x, %d; want 0 and ErrArg", len(f), head(f), at, got, e)
		}
	}
}

// wantUnsound: neither call answers anything for a filter.
func wantUnsound(t *testing.T, f []api.Ins) {
	t.Helper()
	if got, e := live.At(f); len(got) != 0 || e != api.ErrArg {
		t.Errorf("At(%d: %+v): %#x, %d; want none and ErrArg", len(f), head(f), head(got), e)
	}
	wantNoBehind(t, f, -1, 0, 1, len(f)/2, len(f)-1, len(f))
}

// wantLive holds At and Behind, at each index, against the tests' own reading of the document, and against P7.4; and it
// answers what is live.
func wantLive(t *testing.T, f []api.Ins) []uint32 {
	t.Helper()
	if !check.Sound(f) {
		wantUnsound(t, f)
		return nil
	}
	want := expect(f)
	wantAt(t, f, want)
	for at := range f {
		behind := uint32(0)
		for _, to := range check.Next(f, at) {
			behind |= want[to]
		}
		wantBehind(t, f, at, behind)
	}
	wantNoBehind(t, f, -1, len(f))
	if got, _ := live.At(f); len(got) != len(f) || got[len(f)-1]&^bitA != 0 {
		t.Errorf("At(%d: %+v): %#x at the last index", len(f), head(f), got[len(got)-1])
	}
	return want
}

// wantMasks holds Uses and Sets against the tests' own reading of the document.
func wantMasks(t *testing.T, x api.Ins) {
	t.Helper()
	u, s := live.Uses(x), live.Sets(x)
	if wantU, wantS := mask(x, uses), mask(x, sets); u != wantU || s != wantS {
		t.Errorf("%+v: uses %#x, sets %#x; want %#x, %#x", x, u, s, wantU, wantS)
	}
}

// numbers makes the same numbers below n for the same seed.
func numbers(seed int) func(n int) int {
	state := uint64(seed)*0x9e3779b97f4a7c15 + 1
	return func(n int) int {
		state = state*6364136223846793005 + 1442695040888963407
		return int(state>>33) % n
	}
}

// mixed answers a sound filter of count instructions of all operations, which differs by the seed. It has few cells, and
// few ends, so that what one instruction sets others use.
func mixed(count, seed int) []api.Ins {
	next := numbers(seed)
	f := make([]api.Ins, count)
	for at := range f {
		f[at] = someIns(next, count-at-1)
	}
	return f
}

// someIns answers an instruction that may have so many others behind it in a sound filter.
func someIns(next func(n int) int, behind int) api.Ins {
	if behind == 0 || next(12) == 0 {
		return api.Ins{Op: []int{api.RetA, api.RetK}[next(2)]}
	}
	x := api.Ins{Op: every[next(len(every))]}
	jump := func() int {
		if next(9) == 0 {
			return next(min(behind, mostJump+1))
		}
		return next(min(behind, 5))
	}
	switch {
	case among(x.Op, branchKs, branchXs):
		x.Jt, x.Jf = jump(), jump()
	case x.Op == api.Ja:
		x.K = uint32(jump())
	case x.Op == api.LdAbs:
		x.K = uint32(4 * next(16))
	case among(x.Op, cellOps):
		x.K = uint32(5 * next(4))
	}
	if among(x.Op, free, aluKs, branchKs) {
		x.K = uint32(1 + next(31))
	}
	return x
}

// someState answers a state, which differs by the seed; its numbers are small, large, or 0.
func someState(seed int) api.State {
	next := numbers(seed)
	number := func() uint32 {
		return []uint32{0, 1, uint32(next(32)), uint32(next(1 << 31)), math.MaxUint32, uint32(next(1<<16)) << 16}[next(6)]
	}
	s := api.State{A: number(), X: number()}
	for i := range s.M {
		s.M[i] = number()
	}
	return s
}

// someRecord answers a record, which differs by the seed.
func someRecord(seed int) api.Data {
	next := numbers(seed)
	d := api.Data{Nr: uint32(next(32)), Arch: uint32(next(1 << 31)), Ip: uint64(next(1<<31)) << 20}
	for i := range d.Args {
		d.Args[i] = uint64(next(3))<<32 | uint64(next(32))
	}
	return d
}

// part answers the place of a part in a state.
func part(s *api.State, n int) *uint32 {
	switch n {
	case 0:
		return &s.A
	case 1:
		return &s.X
	}
	return &s.M[n-2]
}

// spoil answers a state that has another's parts where these are not in the mask.
func spoil(s, other api.State, keep uint32) api.State {
	for n := range parts {
		if keep>>n%2 == 0 {
			*part(&s, n) = *part(&other, n)
		}
	}
	return s
}

// opposite answers a state that differs from s in each part.
func opposite(s api.State) api.State {
	for n := range parts {
		*part(&s, n) ^= 0x5a5a5a5a
	}
	return s
}

// runFrom answers what a run from an index of a sound filter results in, and after how many instructions.
func runFrom(f []api.Ins, at int, s api.State, d api.Data) (uint32, int) {
	for count := 1; ; count++ {
		x := f[at]
		switch x.Op {
		case api.RetK:
			return x.K, count
		case api.RetA:
			return s.A, count
		}
		var ok bool
		if s, ok = run.Step(s, x, d); !ok {
			return api.Kill, count
		}
		at++
		switch {
		case x.Op == api.Ja:
			at += int(x.K)
		case run.Takes(s, x):
			at += x.Jt
		default:
			at += x.Jf
		}
	}
}

func parse(t *testing.T, s string) []api.Ins {
	t.Helper()
	f, line, e := codec.Parse(s)
	if e != api.OK {
		t.Fatalf("Parse(%q): line %d, %d", s, line, e)
	}
	return f
}

// P7.1: the document's examples, and others of each way through a filter.
func TestExamples(t *testing.T) {
	for _, c := range []struct {
		text string
		want []uint32
	}{
		{"tax\nld 0x5\naddx\nreta\n", []uint32{1, 2, 3, 1}},
		{"st 0x0\njeqx 0x1 0x0\nret 0x0\nmem 0x0\nst 0xf\nreta\n", []uint32{3, 7, 0, 4, 1, 1}},
		{"reta\n", []uint32{1}},
		{"ret 0x7fff0000\n", []uint32{0}},
		{"neg\nret 0x0\n", []uint32{1, 0}},
		{"txa\nreta\n", []uint32{2, 1}},
		{"tax\nldx 0x1\ntxa\nreta\n", []uint32{1, 0, 2, 1}},
		{"abs 0x0\nreta\n", []uint32{0, 1}},
		{"ld 0x0\nreta\n", []uint32{0, 1}},
		{"ldx 0x0\nreta\n", []uint32{1, 1}},
		{"stx 0x3\nmem 0x3\nreta\n", []uint32{2, 0x20, 1}},
		{"st 0x3\nmem 0x4\nreta\n", []uint32{0x41, 0x40, 1}},
		{"memx 0xf\ndivx\nreta\n", []uint32{0x20001, 3, 1}},
		{"mem 0x0\nmem 0x1\nreta\n", []uint32{0xc, 8, 1}},
		{"ja 0x1\nreta\nmem 0x2\nreta\n", []uint32{0x10, 1, 0x10, 1}},
		{"ja 0x0\ntxa\nreta\n", []uint32{2, 2, 1}},
		{"ret 0x0\ntxa\nreta\n", []uint32{0, 2, 1}},
		{"reta\nmemx 0x1\nret 0x0\n", []uint32{1, 8, 0}},
		{"jeq 0x0 0x0 0x1\nmem 0x1\nmem 0x2\nreta\n", []uint32{0x19, 0x18, 0x10, 1}},
		{"jset 0x1 0x1 0x0\ntxa\nreta\n", []uint32{3, 2, 1}},
		{"jgt 0x1 0x0 0x0\nld 0x1\nreta\n", []uint32{1, 0, 1}},
		{"ld 0x1\njge 0x1 0x1 0x0\nret 0x0\ntxa\nreta\n", []uint32{2, 3, 0, 2, 1}},
		{"ld 0x1\nsubx\nsub 0x1\nreta\n", []uint32{2, 3, 1, 1}},
		{"divx\nret 0x0\n", []uint32{3, 0}},
	} {
		f := parse(t, c.text)
		wantAt(t, f, c.want)
		wantLive(t, f)
	}
}

// P7.1: what is live behind an index, at ends, jumps and branches too.
func TestExamplesBehind(t *testing.T) {
	for _, c := range []struct {
		text string
		want []uint32
	}{
		{"st 0x0\njeqx 0x1 0x0\nret 0x0\nmem 0x0\nst 0xf\nreta\n", []uint32{7, 4, 0, 1, 1, 0}},
		{"tax\nld 0x5\naddx\nreta\n", []uint32{2, 3, 1, 0}},
		{"ja 0x1\nreta\nmem 0x2\nreta\n", []uint32{0x10, 0, 1, 0}},
		{"jsetx 0x2 0x1\nreta\nmem 0xf\nmemx 0xe\nreta\n", []uint32{0x30001, 0, 0x10001, 1, 0}},
		{"jgtx 0x0 0x0\ntxa\nret 0x0\nreta\n", []uint32{2, 0, 0, 0}},
	} {
		f := parse(t, c.text)
		for at, want := range c.want {
			wantBehind(t, f, at, want)
		}
		wantNoBehind(t, f, -1, len(f))
	}
}

// P7.1: the error, and the bits, are the document's numbers.
func TestNumbers(t *testing.T) {
	if l, e := live.At(nil); len(l) != 0 || int(e) != 1 {
		t.Errorf("At(nil): %v, %d", l, e)
	}
	if v, e := live.Behind([]api.Ins{{Op: 0x06}}, 1); v != 0 || int(e) != 1 {
		t.Errorf("Behind: %d, %d", v, e)
	}
	if l, e := live.At([]api.Ins{{Op: 0x16}}); !slices.Equal(l, []uint32{1}) || int(e) != 0 {
		t.Errorf("At: %v, %d", l, e)
	}
	if live.Sets(api.Ins{Op: 0x00}) != 1 || live.Sets(api.Ins{Op: 0x01}) != 2 || live.Sets(api.Ins{Op: 0x02}) != 4 || live.Sets(api.Ins{Op: 0x03, K: 15}) != 0x20000 {
		t.Error("the bits are others")
	}
}

// P7.1: every operation, one by one.
func TestEachOperation(t *testing.T) {
	const a, x, both, cell3 = bitA, bitX, bitA | bitX, bitCell << 3
	for _, c := range []struct {
		ops        []int
		uses, sets uint32
	}{
		{[]int{api.LdImm, api.LdAbs}, 0, a}, {[]int{api.LdxImm}, 0, x}, {[]int{api.LdMem}, cell3, a}, {[]int{api.LdxMem}, cell3, x}, {[]int{api.St}, a, cell3}, {[]int{api.Stx}, x, cell3},
		{[]int{api.Tax}, a, x}, {[]int{api.Txa}, x, a}, {[]int{api.Neg}, a, a}, {aluKs, a, a}, {aluXs, both, a}, {branchKs, a, 0}, {branchXs, both, 0}, {[]int{api.RetA}, a, 0}, {[]int{api.RetK, api.Ja}, 0, 0}, {noOps, 0, 0},
	} {
		for _, op := range c.ops {
			if u, s := live.Uses(api.Ins{Op: op, K: 3}), live.Sets(api.Ins{Op: op, K: 3}); u != c.uses || s != c.sets {
				t.Errorf("%#x: uses %#x, sets %#x; want %#x, %#x", op, u, s, c.uses, c.sets)
			}
		}
	}
}

// P7.1, P0 (R1): what is used and set hangs on Op and K alone, also where the instruction is not valid.
func TestEveryInstruction(t *testing.T) {
	jumps := []int{0, 1, 255, 256, -1, math.MinInt, math.MaxInt}
	ops := slices.Clone(noOps)
	for op := range 1 << 10 {
		ops = append(ops, op)
	}
	for _, op := range ops {
		for _, k := range ks {
			wantMasks(t, api.Ins{Op: op, K: k})
		}
		for _, j := range jumps {
			for _, k := range []uint32{0, 3, 15, 16, 0xffffffff} {
				wantMasks(t, api.Ins{Op: op, Jt: j, K: k})
				wantMasks(t, api.Ins{Op: op, Jf: j, K: k})
				wantMasks(t, api.Ins{Op: op, Jt: j, Jf: -j, K: k})
			}
		}
	}
}

// P7.1: each cell is its own part; a cell that does not exist is none.
func TestCells(t *testing.T) {
	all := slices.Clone(ks)
	for k := range uint32(300) {
		all = append(all, k)
	}
	for _, k := range all {
		want := uint32(0)
		if k < cells {
			want = bitCell << k
		}
		for _, op := range []int{api.LdMem, api.LdxMem} {
			if u := live.Uses(api.Ins{Op: op, K: k}); u != want {
				t.Errorf("Uses(%#x %#x): %#x; want %#x", op, k, u, want)
			}
		}
		for _, op := range []int{api.St, api.Stx} {
			if s := live.Sets(api.Ins{Op: op, K: k}); s != want {
				t.Errorf("Sets(%#x %#x): %#x; want %#x", op, k, s, want)
			}
		}
	}
	for k := range uint32(cells) {
		for other := range uint32(cells) {
			wantLive(t, []api.Ins{{Op: api.St, K: k}, {Op: api.Stx, K: other}, {Op: api.LdMem, K: k}, {Op: api.LdxMem, K: other}, {Op: api.RetA}})
		}
	}
}

// P7.1: all parts may be live at once, and each is so until it is set.
func TestAllParts(t *testing.T) {
	var f []api.Ins
	for k := range uint32(cells) {
		f = append(f, api.Ins{Op: api.LdMem, K: k}, api.Ins{Op: api.AddX})
	}
	f = append(f, api.Ins{Op: api.RetA})
	if l := wantLive(t, f); l[0] != 0x3fffe {
		t.Errorf("At: %#x", l[0])
	}
	f = append([]api.Ins{{Op: api.AddX}}, f...)
	if l := wantLive(t, f); l[0] != 0x3ffff {
		t.Errorf("At: %#x", l[0])
	}
	want := uint32(0x3ffff)
	for k := range uint32(cells) {
		f = append([]api.Ins{{Op: api.St, K: k}}, f...)
		want -= bitCell << k
		if l := wantLive(t, f); l[0] != want {
			t.Errorf("At, with the cells up to %d set: %#x; want %#x", k, l[0], want)
		}
	}
}

// P7.1: filters that are not sound, each in one way, at each place.
func TestUnsound(t *testing.T) {
	end := api.Ins{Op: api.RetA}
	for _, x := range []api.Ins{
		{Op: 8}, {Op: -1}, {Op: math.MaxInt}, {Op: api.RetK + 0x10000}, {Op: api.Tax, K: 1}, {Op: api.RetK, Jt: 1}, {Op: api.RetA, K: 1}, {Op: api.JeqK, Jt: 256}, {Op: api.JeqK, Jf: -1}, {Op: api.JeqX, K: 1},
		{Op: api.LdAbs, K: 2}, {Op: api.LdAbs, K: 64}, {Op: api.St, K: 16}, {Op: api.Stx, K: 16}, {Op: api.LdMem, K: 16}, {Op: api.LdxMem, K: math.MaxUint32}, {Op: api.DivK}, {Op: api.LshK, K: 32}, {Op: api.RshK, K: 33},
		{Op: api.Ja, K: 4}, {Op: api.Ja, K: math.MaxUint32}, {Op: api.JgtK, Jt: 4}, {Op: api.JsetX, Jf: 255}, {Op: api.JgeX, Jt: 4, Jf: 4}, {Op: api.JgtX, Jt: math.MinInt}, {Op: api.JsetK, Jf: math.MaxInt},
	} {
		for place := range 4 {
			f := []api.Ins{end, end, end, end}
			f[place] = x
			wantUnsound(t, f)
		}
		wantUnsound(t, []api.Ins{x})
		wantUnsound(t, []api.Ins{{Op: api.Ja, K: 1}, x, end})
	}
	wantUnsound(t, nil)
	wantUnsound(t, []api.Ins{})
	wantUnsound(t, []api.Ins{{Op: api.Tax}})
	wantUnsound(t, []api.Ins{end, {Op: api.Tax}})
	wantUnsound(t, []api.Ins{end, {Op: api.Ja}})
	wantUnsound(t, []api.Ins{end, {Op: api.JeqK}})
	wantUnsound(t, slices.Repeat([]api.Ins{end}, mostIns+1))
	wantUnsound(t, slices.Repeat([]api.Ins{end}, 1<<16))
	// As it is the length that counts, not what memory lies behind it.
	wantUnsound(t, []api.Ins{{Op: api.Tax}, end}[:1])
	wantUnsound(t, []api.Ins{{Op: api.JeqK, Jt: 1}, end, end}[:2])
	wantUnsound(t, []api.Ins{end, end}[:0])
}

// P7.1, P0 (R1): there is nothing behind an index that there is not; many would be one's if they were cut to fewer bits.
func TestBehindNoIndex(t *testing.T) {
	long := slices.Repeat([]api.Ins{{Op: api.RetA}}, mostIns)
	for _, f := range [][]api.Ins{long[:1], long[:2], long, parse(t, "txa\nneg\nreta\n"), parse(t, "jeqx 0x1 0x0\ntxa\nreta\nreta\n")[:3]} {
		n := len(f)
		wantNoBehind(t, f, -1, -2, -n, -n-1, n, n+1, 2*n, mostIns, mostIns+1, -mostIns, 1<<16, 1<<30, -(1 << 30), 1<<32, 1<<32+1, math.MinInt32, math.MaxInt32, math.MinInt, math.MinInt+1, math.MaxInt-1, math.MaxInt)
	}
}

// P7.1: a jump of each length carries what is live where it lands, and nothing else.
func TestJumps(t *testing.T) {
	const count = 300
	for k := range count {
		f := slices.Repeat([]api.Ins{{Op: api.RetK}}, count+1)
		f[0] = api.Ins{Op: api.Ja, K: uint32(k)}
		f[1+k] = api.Ins{Op: api.RetA}
		if l := wantFirst(t, f); l != bitA {
			t.Errorf("ja %#x: %#x", k, l)
		}
		f = slices.Repeat([]api.Ins{{Op: api.RetA}}, count+1)
		f[0] = api.Ins{Op: api.Ja, K: uint32(k)}
		f[1+k] = api.Ins{Op: api.RetK}
		if l := wantFirst(t, f); l != 0 {
			t.Errorf("ja %#x: %#x", k, l)
		}
	}
}

// wantFirst answers what is live at the first index of a sound filter, and holds it against what is live behind it.
func wantFirst(t *testing.T, f []api.Ins) uint32 {
	t.Helper()
	l, e := live.At(f)
	if len(l) != len(f) || e != api.OK {
		t.Fatalf("At(%d: %+v): %d, %d", len(f), head(f), len(l), e)
	}
	if b, e := live.Behind(f, 0); mask(f[0], uses)|b&^mask(f[0], sets) != l[0] || e != api.OK {
		t.Errorf("Behind(%d: %+v, 0): %#x, %d; At %#x", len(f), head(f), b, e, l[0])
	}
	return l[0]
}

// P7.1: branches of all lengths carry what is live at both of their targets, and nothing else.
func TestBranches(t *testing.T) {
	for _, op := range slices.Concat(branchKs, branchXs) {
		own := mask(api.Ins{Op: op}, uses)
		for jt := range mostJump + 1 {
			for _, jf := range []int{0, 1, jt, mostJump - jt, mostJump} {
				f := slices.Repeat([]api.Ins{{Op: api.RetK}}, mostJump+3)
				f[0] = api.Ins{Op: op, Jt: jt, Jf: jf}
				f[1+jt], f[1+jf] = api.Ins{Op: api.LdMem, K: 15}, api.Ins{Op: api.LdxMem}
				want := own | bitCell<<15 | bitCell
				if jt == jf {
					want = own | bitCell
				}
				if l := wantFirst(t, f); l != want {
					t.Errorf("%+v: %#x; want %#x", f[0], l, want)
				}
			}
		}
	}
}

// P7.1: what only one of two ways needs is live, and what both set is not.
func TestWaysThatMeet(t *testing.T) {
	for _, c := range []struct {
		one, other string
		want       uint32
	}{
		{"ld 0x1\n", "ld 0x2\n", bitA}, {"ld 0x1\n", "txa\n", bitA | bitX}, {"txa\n", "ld 0x1\n", bitA | bitX}, {"mem 0x1\n", "mem 0x2\n", bitA | bitCell<<1 | bitCell<<2}, {"neg\n", "ldx 0x1\n", bitA},
	} {
		f := parse(t, "jeq 0x5 0x0 0x2\n"+c.one+"ja 0x1\n"+c.other+"reta\n")
		if l := wantLive(t, f); l[0] != c.want {
			t.Errorf("%q, %q: %#x; want %#x", c.one, c.other, l[0], c.want)
		}
		f = parse(t, "jeqx 0x0 0x2\n"+c.one+"ja 0x1\n"+c.other+"st 0x9\nmemx 0x9\ndivx\nreta\n")
		if l := wantLive(t, f); l[0] != c.want|bitX {
			t.Errorf("%q, %q: %#x; want %#x", c.one, c.other, l[0], c.want|bitX)
		}
	}
}

// P7.1, P7.4: the longest filters.
func TestLongestFilter(t *testing.T) {
	f := slices.Repeat([]api.Ins{{Op: api.Neg}}, mostIns)
	for _, c := range []struct {
		first, last api.Ins
		want        uint32
	}{
		{api.Ins{Op: api.LdxImm}, api.Ins{Op: api.RetA}, bitA}, {api.Ins{Op: api.LdMem, K: 15}, api.Ins{Op: api.RetA}, bitCell << 15}, {api.Ins{Op: api.Ja, K: mostIns - 2}, api.Ins{Op: api.RetK}, 0}, {api.Ins{Op: api.Ja, K: mostIns - 3}, api.Ins{Op: api.RetK}, bitA},
	} {
		f[0], f[mostIns-1] = c.first, c.last
		if l := wantFirst(t, f); l != c.want|mask(c.first, uses) {
			t.Errorf("%+v, %+v: %#x; want %#x", c.first, c.last, l, c.want)
		}
	}
	wantNoBehind(t, f, -1, mostIns)
	wantUnsound(t, append(f, f[mostIns-1]))
	long := mixed(mostIns, 5)
	want := expect(long)
	wantAt(t, long, want)
	for _, at := range []int{0, 1, 255, 256, 2048, mostIns - 2, mostIns - 1} {
		behind := uint32(0)
		for _, to := range check.Next(long, at) {
			behind |= want[to]
		}
		wantBehind(t, long, at, behind)
	}
}

// P7.1, P7.4: mixed filters; in some of them each part is live somewhere, and somewhere not.
func TestMixedFilters(t *testing.T) {
	seen, missed := uint32(0), uint32(0)
	for seed := range 1000 {
		f := mixed(1+seed%70, seed)
		for i, v := range wantLive(t, f) {
			if i > 0 {
				seen |= v
				missed |= ^v
			}
		}
		f[seed%len(f)].K += 0x100
		wantLive(t, f)
	}
	const named = bitA | bitX | bitCell | bitCell<<5 | bitCell<<10 | bitCell<<15
	if seen != named || missed&named != named {
		t.Errorf("live %#x, not live %#x", seen, missed)
	}
}

// P7.1, P7.4: all filters of up to four instructions out of some of each kind.
func TestAllShortFilters(t *testing.T) {
	few := []api.Ins{
		{Op: api.RetA}, {Op: api.RetK}, {Op: api.LdImm}, {Op: api.LdxImm}, {Op: api.Tax}, {Op: api.Txa}, {Op: api.Neg}, {Op: api.LdAbs, K: 4}, {Op: api.LdAbs, K: 64},
		{Op: api.St, K: 1}, {Op: api.Stx, K: 1}, {Op: api.LdMem, K: 1}, {Op: api.LdxMem, K: 1}, {Op: api.AddX}, {Op: api.SubK, K: 7}, {Op: api.Ja}, {Op: api.Ja, K: 1}, {Op: api.JeqK, Jt: 1}, {Op: api.JgtX, Jf: 1}, {Op: api.JgeX, Jt: 1, Jf: 1},
	}
	wantLive(t, nil)
	for _, w := range few {
		wantLive(t, []api.Ins{w})
		for _, x := range few {
			wantLive(t, []api.Ins{w, x})
			for _, y := range few {
				wantLive(t, []api.Ins{w, x, y})
				for _, z := range few[:2] {
					wantLive(t, []api.Ins{w, x, y, z})
				}
			}
		}
	}
}

// P7.2: runs from an index, from two states that agree in what is live there, come to the same.
func TestStatesThatAgree(t *testing.T) {
	differed := 0
	for seed := range 700 {
		f := mixed(1+seed%50, seed)
		l, _ := live.At(f)
		for at := range f {
			s, other, d := someState(seed+at), someState(seed+at+1000), someRecord(seed+at)
			for _, spoilt := range []api.State{spoil(s, other, l[at]), spoil(s, opposite(s), l[at]), spoil(s, api.State{}, l[at])} {
				v, n := runFrom(f, at, s, d)
				if w, m := runFrom(f, at, spoilt, d); v != w || n != m {
					t.Fatalf("%+v, from %d: live %#x, but from %+v, for %+v, it comes to %#x, %d, and from %+v to %#x, %d", f, at, l[at], s, d, v, n, spoilt, w, m)
				}
			}
			v, _ := runFrom(f, at, s, d)
			if w, _ := runFrom(f, at, opposite(s), d); v != w {
				differed++
			}
		}
	}
	if differed == 0 {
		t.Error("no result hung on a state")
	}
}

// P7.2: runs from each index at which one may go on come to the same from two states that agree in what is live behind.
func TestStatesThatAgreeBehind(t *testing.T) {
	for seed := range 300 {
		f := mixed(1+seed%40, seed)
		for at := range f {
			keep, _ := live.Behind(f, at)
			s, d := someState(seed+at), someRecord(seed+at)
			spoilt := spoil(s, opposite(s), keep)
			for _, to := range check.Next(f, at) {
				v, n := runFrom(f, to, s, d)
				if w, m := runFrom(f, to, spoilt, d); v != w || n != m {
					t.Fatalf("%+v, behind %d, from %d: live %#x, but %#x, %d and %#x, %d", f, at, to, keep, v, n, w, m)
				}
			}
		}
	}
}

// P7.3: an instruction changes nothing but what it sets, and the new values hang on what it uses, and on the record.
func TestStepsAgree(t *testing.T) {
	for seed := range 60 {
		d := someRecord(seed)
		for _, op := range slices.Concat(every, noOps) {
			for _, k := range ks {
				x := api.Ins{Op: op, K: k, Jt: seed % 3}
				s := someState(seed + int(k%97))
				if seed%4 == 0 {
					s.X = 0
				}
				wantSameStep(t, s, spoil(s, someState(seed+5000), live.Uses(x)), x, d)
				wantSameStep(t, s, spoil(s, opposite(s), live.Uses(x)), x, d)
			}
		}
	}
}

// wantSameStep holds the steps from two states, that agree in what x uses, against each other.
func wantSameStep(t *testing.T, s, other api.State, x api.Ins, d api.Data) {
	t.Helper()
	a, okA := run.Step(s, x, d)
	b, okB := run.Step(other, x, d)
	if okA != okB || run.Takes(s, x) != run.Takes(other, x) {
		t.Errorf("%+v, uses %#x: from %+v and %+v it goes on in two ways", x, live.Uses(x), s, other)
	}
	set := live.Sets(x)
	if spoil(a, s, set) != a || spoil(b, other, set) != b {
		t.Errorf("%+v, sets %#x: %+v became %+v, %+v became %+v", x, set, s, a, other, b)
	}
	for n := range parts {
		if set>>n%2 == 1 && *part(&a, n) != *part(&b, n) {
			t.Errorf("%+v, uses %#x: part %d: %#x from %+v, %#x from %+v", x, live.Uses(x), n, *part(&a, n), s, *part(&b, n), other)
		}
	}
}

// P7.4: at the last index, A is live or nothing is, as it answers A or a number; nothing is behind it.
func TestLastIndex(t *testing.T) {
	for _, n := range []int{1, 2, 3, 50, mostIns} {
		for _, c := range []struct {
			x    api.Ins
			want uint32
		}{{api.Ins{Op: api.RetA}, bitA}, {api.Ins{Op: api.RetK}, 0}, {api.Ins{Op: api.RetK, K: 15}, 0}, {api.Ins{Op: api.RetK, K: math.MaxUint32}, 0}} {
			f := slices.Repeat([]api.Ins{{Op: api.XorX}}, n)
			f[n-1] = c.x
			if l, e := live.At(f); len(l) != n || l[n-1] != c.want || e != api.OK {
				t.Errorf("At of %d, %+v the last: %#x, %d", n, c.x, l[len(l)-1], e)
			}
			wantBehind(t, f, n-1, 0)
		}
	}
}

// P0 (R3): arguments are left as they are, with the memory behind them.
func TestArgumentsAreLeft(t *testing.T) {
	for seed := range 50 {
		f := mixed(60, seed)
		before := slices.Clone(f)
		cut := f[:30]
		live.At(f)
		live.At(cut)
		for at := range f {
			live.Behind(f, at)
			live.Behind(cut, at)
			live.Uses(f[at])
			live.Sets(f[at])
		}
		if !slices.Equal(f, before) {
			t.Fatalf("seed %d: %+v, before %+v", seed, f, before)
		}
	}
}

// P0 (R3): what At answers is new, also beyond its length, and nothing of an argument is kept.
func TestResultsAreNew(t *testing.T) {
	f := parse(t, "mem 0x3\naddx\nreta\n")
	want := []uint32{0x22, 3, 1}
	var got [][]uint32
	for range 3 {
		l, _ := live.At(f)
		got = append(got, l)
	}
	for _, l := range got {
		if !slices.Equal(l, want) {
			t.Errorf("At: %#x; want %#x", l, want)
		}
		l = l[:cap(l)]
		for i := range l {
			l[i] = 0xdeadbeef
		}
	}
	wantAt(t, f, want)
	l, _ := live.At(f)
	f[1] = api.Ins{Op: api.RetK}
	if !slices.Equal(l, want) {
		t.Errorf("At's answer became %#x", l)
	}
	wantAt(t, f, []uint32{0x20, 0, 1})
	wantBehind(t, f, 0, 0)
	f[1] = api.Ins{Op: 8}
	wantUnsound(t, f)
}

// P0 (R4): a call's result does not hang on the calls before it.
func TestCallsAreRepeatable(t *testing.T) {
	var first []uint32
	for round := range 3 {
		for seed := range 200 {
			f := mixed(30, seed)
			if seed%5 == 0 {
				f[seed%30].K = 0xffffffff
			}
			l, e := live.At(f)
			sum := uint32(e)
			for at := range f {
				b, e := live.Behind(f, at)
				sum = sum*31 + b + uint32(e) + live.Uses(f[at])*7 + live.Sets(f[at])
			}
			for _, v := range l {
				sum = sum*31 + v
			}
			if round == 0 {
				first = append(first, sum)
			} else if sum != first[seed] {
				t.Fatalf("seed %d: %#x, before %#x", seed, sum, first[seed])
			}
		}
	}
}

// readFilter makes a filter, valid or not, of any bytes.
func readFilter(b []byte) []api.Ins {
	var f []api.Ins
	for chunk := range slices.Chunk(b[:len(b)/8*8], 8) {
		f = append(f, api.Ins{Op: int(chunk[0]) - int(chunk[1]), Jt: int(chunk[2]), Jf: int(chunk[3]), K: binary.LittleEndian.Uint32(chunk[4:])})
	}
	return f
}

// FuzzLive holds all calls against the tests' own reading of the document, on any filters.
func FuzzLive(f *testing.F) {
	for seed := range 40 {
		b, _ := codec.Encode(mixed(1+seed%12, seed))
		f.Add(b)
	}
	f.Add([]byte{})
	f.Fuzz(func(t *testing.T, b []byte) {
		if len(b) > 8*100 {
			return
		}
		filter := readFilter(b)
		wantLive(t, filter)
		for _, x := range filter {
			wantMasks(t, x)
		}
	})
}
