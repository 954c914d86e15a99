package check_test

import (
	"math"
	"slices"
	"testing"

	"hurdle/api"
	"hurdle/check"
	"hurdle/codec"
)

// The tests' own numbers, written out: they are what the document names.
const (
	mostIns  = 4096
	cells    = 16
	dataLen  = 64
	mostJump = 255
)

var (
	// bare are the operations without a number, arithmetic with X among them.
	bare = []int{
		api.Neg, api.Tax, api.Txa, api.RetA, api.AddX, api.SubX, api.MulX, api.DivX, api.OrX, api.AndX, api.LshX, api.RshX, api.XorX,
	}
	// free are those with a number that may be any.
	free = []int{
		api.LdImm, api.LdxImm, api.RetK, api.AddK, api.SubK, api.MulK, api.OrK, api.AndK, api.XorK,
	}
	cellOps  = []int{api.St, api.Stx, api.LdMem, api.LdxMem}
	shifts   = []int{api.LshK, api.RshK}
	branchKs = []int{api.JeqK, api.JgtK, api.JgeK, api.JsetK}
	branchXs = []int{api.JeqX, api.JgtX, api.JgeX, api.JsetX}

	// ks are numbers at which a condition, a sign or a sum may go wrong.
	ks = []uint32{
		0, 1, 2, 3, 4, 5, 8, 12, 15, 16, 17, 20, 28, 30, 31, 32, 33, 36, 59, 60, 61, 62, 63, 64, 65, 68, 127, 128, 255, 256, 260, 0xfff, 0x1000, 0x1001,
		0xfffc, 0xffff, 0x10000, 0x10004, 0x1000000, 0x7ffffffc, 0x7fffffff, 0x80000000, 0x80000001, 0x80000004, 0xfffff000, 0xfffffff0, 0xfffffffc, 0xfffffffd, 0xfffffffe, 0xffffffff,
	}

	// wrong are instructions that are not valid; some would break another condition too, were they valid.
	wrong = []api.Ins{
		{Op: 8}, {Op: -1}, {Op: 255}, {Op: 256}, {Op: 0x106}, {Op: 0x10006}, {Op: api.RetA - 0x10000}, {Op: math.MinInt}, {Op: math.MaxInt}, {Op: api.LdAbs + 0x10000, K: 2},
		{Op: api.Tax, K: 1}, {Op: api.Tax, Jt: 1}, {Op: api.Tax, Jf: 1}, {Op: api.RetA, K: 1}, {Op: api.RetA, Jt: -1}, {Op: api.RetK, Jt: 1}, {Op: api.RetK, Jf: 256}, {Op: api.DivX, K: 1}, {Op: api.LshX, K: 32},
		{Op: api.LdAbs, K: 2, Jt: 1}, {Op: api.LdAbs, K: 64, Jf: 1}, {Op: api.LdAbs, Jf: math.MinInt}, {Op: api.St, K: 16, Jt: 1}, {Op: api.Stx, K: 16, Jf: 255}, {Op: api.LdMem, K: 17, Jt: 256}, {Op: api.LdxMem, K: 99, Jf: -1},
		{Op: api.DivK, Jt: 1}, {Op: api.DivK, K: 1, Jf: 1}, {Op: api.LshK, K: 32, Jt: 1}, {Op: api.RshK, Jf: 1}, {Op: api.Ja, K: math.MaxUint32, Jt: 1}, {Op: api.Ja, Jf: 1},
		{Op: api.JeqK, Jt: 256}, {Op: api.JgtK, Jf: 256}, {Op: api.JgeK, Jt: -1}, {Op: api.JsetK, Jf: -1}, {Op: api.JeqK, Jt: math.MaxInt}, {Op: api.JeqK, Jf: math.MinInt}, {Op: api.JeqX, Jt: -1, Jf: -1}, {Op: api.JeqX, K: 1}, {Op: api.JsetX, Jt: 255, Jf: 255, K: 1}, {Op: api.JgtX, Jt: math.MinInt}, {Op: api.JgeX, Jf: math.MaxInt},
	}
)

func among(op int, lists ...[]int) bool {
	return slices.Contains(slices.Concat(lists...), op)
}

// valid reads the document's list of formats in another way than the program.
func valid(x api.Ins) bool {
	switch {
	case among(x.Op, bare):
		return x == api.Ins{Op: x.Op}
	case among(x.Op, free, cellOps, shifts, []int{api.LdAbs, api.DivK, api.Ja}):
		return x == api.Ins{Op: x.Op, K: x.K}
	case among(x.Op, branchKs, branchXs):
		return x.Jt >= 0 && x.Jt <= mostJump && x.Jf >= 0 && x.Jf <= mostJump && (x.K == 0 || among(x.Op, branchKs))
	}
	return false
}

// faultAt answers what is wrong with the instruction at an index of a filter of that many, or OK.
func faultAt(x api.Ins, at, count int) api.Errno {
	inside := func(jump int64) bool {
		to := int64(at) + 1 + jump
		return to >= 0 && to < int64(count)
	}
	switch {
	case !valid(x):
		return api.ErrArg
	case x.Op == api.LdAbs && (x.K&3 != 0 || x.K > dataLen-4):
		return api.ErrLoad
	case among(x.Op, cellOps) && x.K > cells-1:
		return api.ErrCell
	case x.Op == api.DivK && x.K == 0:
		return api.ErrZero
	case among(x.Op, shifts) && x.K > 31:
		return api.ErrArg
	case x.Op == api.Ja && !inside(int64(x.K)):
		return api.ErrJump
	case among(x.Op, branchKs, branchXs) && !(inside(int64(x.Jt)) && inside(int64(x.Jf))):
		return api.ErrJump
	}
	return api.OK
}

// expect answers what Check must.
func expect(f []api.Ins) (int, api.Errno) {
	switch {
	case len(f) == 0:
		return 0, api.ErrEnd
	case len(f) > mostIns:
		return 0, api.ErrFull
	}
	for at, x := range f {
		if e := faultAt(x, at, len(f)); e != api.OK {
			return at, e
		}
	}
	if op := f[len(f)-1].Op; op != api.RetK && op != api.RetA {
		return len(f) - 1, api.ErrEnd
	}
	return 0, api.OK
}

// expectNext answers what Next must for a sound filter, by asking of each index whether a run may go there.
func expectNext(f []api.Ins, at int) []int {
	var out []int
	for to := range f {
		jump := to - at - 1
		goes := false
		switch x := f[at]; {
		case x.Op == api.RetK || x.Op == api.RetA:
		case x.Op == api.Ja:
			goes = int64(jump) == int64(x.K)
		case among(x.Op, branchKs, branchXs):
			goes = jump == x.Jt || jump == x.Jf
		default:
			goes = jump == 0
		}
		if goes {
			out = append(out, to)
		}
	}
	return out
}

// head keeps the messages about long filters short.
func head(f []api.Ins) []api.Ins {
	return f[:min(len(f), 5)]
}

// wantCheck holds Check and Sound against what they must answer.
func wantCheck(t *testing.T, f []api.Ins, at int, errno api.Errno) {
	t.Helper()
	if got, e := check.Check(f); got != at || e != errno {
		t.Errorf("Check(%d: %+v): %d, %d; want %d, %d", len(f), head(f), got, e, at, errno)
	}
	if got := check.Sound(f); got != (errno == api.OK) {
		t.Errorf("Sound(%d: %+v): %v", len(f), head(f), got)
	}
}

// wantNoNext: a run goes on nowhere, wherever one asks.
func wantNoNext(t *testing.T, f []api.Ins, ats ...int) {
	t.Helper()
	for _, at := range ats {
		if l := check.Next(f, at); len(l) != 0 {
			t.Errorf("Next(%d: %+v, %d): %v; want none", len(f), head(f), at, l)
		}
	}
}

// noIndices are indices that a filter of that many instructions has not; many would be one's if they were cut to fewer bits.
func noIndices(count int) []int {
	return []int{-1, -2, -count, -count - 1, count, count + 1, 2 * count, -mostIns, mostIns, 1 << 16, 1 << 30, -(1 << 30), math.MinInt32, math.MaxInt32, math.MinInt, math.MinInt + 1, math.MaxInt - 1, math.MaxInt}
}

// wantAsExpected holds all calls against the tests' own reading of the document; and a sound filter against P5.3 and P5.4.
func wantAsExpected(t *testing.T, f []api.Ins) api.Errno {
	t.Helper()
	at, errno := expect(f)
	wantCheck(t, f, at, errno)
	if errno != api.OK {
		wantNoNext(t, f, 0, at, len(f)-1, len(f))
		return errno
	}
	for at := range f {
		if l, want := check.Next(f, at), expectNext(f, at); !slices.Equal(l, want) {
			t.Errorf("Next(%d: %+v, %d): %v; want %v", len(f), head(f), at, l, want)
		}
	}
	wantNoNext(t, f, -1, len(f))
	wantPaths(t, f)
	wantEncoding(t, f)
	return errno
}

// wantPaths: from each index of a sound filter a run goes only to greater ones, and some path leads to an end (P5.3).
func wantPaths(t *testing.T, f []api.Ins) {
	t.Helper()
	ends := make([]bool, len(f))
	for at := len(f) - 1; at >= 0; at-- {
		ends[at] = f[at].Op == api.RetK || f[at].Op == api.RetA
		last := at
		for _, to := range check.Next(f, at) {
			if to <= last || to >= len(f) {
				t.Errorf("Next(%d: %+v, %d): %d, behind %d", len(f), head(f), at, to, last)
				return
			}
			last = to
			ends[at] = ends[at] || ends[to]
		}
		if !ends[at] {
			t.Errorf("%d: %+v: no path from %d to an end", len(f), head(f), at)
		}
	}
}

// wantEncoding: a sound filter has one, from which it comes back (P5.4).
func wantEncoding(t *testing.T, f []api.Ins) {
	t.Helper()
	b, e := codec.Encode(f)
	if len(b) != 8*len(f) || e != api.OK {
		t.Errorf("Encode(%d: %+v): %d bytes, %d", len(f), head(f), len(b), e)
	}
	if g, e := codec.Decode(b); !slices.Equal(g, f) || e != api.OK {
		t.Errorf("Decode(Encode(%d: %+v)): %+v, %d", len(f), head(f), head(g), e)
	}
}

// neutral answers a filter of count instructions in which nothing is wrong: the last one ends it.
func neutral(count int) []api.Ins {
	f := make([]api.Ins, count)
	for i := range f {
		f[i] = api.Ins{Op: api.Neg}
	}
	f[count-1] = api.Ins{Op: api.RetA}
	return f
}

// with answers the neutral filter of count instructions with some from an index on.
func with(count, at int, xs ...api.Ins) []api.Ins {
	f := neutral(count)
	copy(f[at:], xs)
	return f
}

// numbers makes the same numbers below n for the same seed.
func numbers(seed int) func(n int) int {
	state := uint64(seed)*0x9e3779b97f4a7c15 + 1
	return func(n int) int {
		state = state*6364136223846793005 + 1442695040888963407
		return int(state>>33) % n
	}
}

// mixed answers a filter of count instructions of all operations, which differs by the seed, and is sound unless it is
// spoilt: then some of its numbers may be any.
func mixed(count, seed int, spoilt bool) []api.Ins {
	next := numbers(seed)
	all := slices.Concat(bare, free, cellOps, shifts, branchKs, branchXs, []int{api.LdAbs, api.DivK, api.Ja})
	f := make([]api.Ins, count)
	for at := range f {
		behind := count - at - 1
		x := api.Ins{Op: all[next(len(all))]}
		jump := func() int { return next(min(behind, mostJump+1)) }
		switch {
		case behind == 0:
			x = api.Ins{Op: []int{api.RetA, api.RetK}[next(2)]}
		case among(x.Op, branchKs, branchXs):
			x.Jt, x.Jf = jump(), jump()
		case x.Op == api.Ja:
			x.K = uint32(next(behind))
		case x.Op == api.LdAbs:
			x.K = uint32(4 * next(16))
		case among(x.Op, cellOps):
			x.K = uint32(next(16))
		case among(x.Op, shifts):
			x.K = uint32(next(32))
		}
		if among(x.Op, free, branchKs) || x.Op == api.DivK {
			x.K = ks[1+next(len(ks)-1)]
		}
		if spoilt && next(count) == 0 {
			x.K = ks[next(len(ks))]
			x.Jt = next(3) * next(200)
		}
		f[at] = x
	}
	return f
}

// P5.1: the document's examples, and others of each error.
func TestExamples(t *testing.T) {
	for _, c := range []struct {
		text  string
		at    int
		errno api.Errno
	}{
		{"abs 0x0\nret 0x0\n", 0, api.OK},
		{"abs 0x2\nret 0x0\n", 0, api.ErrLoad},
		{"ja 0x1\nret 0x0\n", 0, api.ErrJump},
		{"tax\n", 0, api.ErrEnd},
		{"", 0, api.ErrEnd},
		{"reta\n", 0, api.OK},
		{"ret 0x7fff0000\n", 0, api.OK},
		{"abs 0x3c\nreta\n", 0, api.OK},
		{"neg\nabs 0x40\nreta\n", 1, api.ErrLoad},
		{"stx 0xf\nreta\n", 0, api.OK},
		{"stx 0x10\nreta\n", 0, api.ErrCell},
		{"div 0x1\nreta\n", 0, api.OK},
		{"div 0x0\nreta\n", 0, api.ErrZero},
		{"rsh 0x1f\nreta\n", 0, api.OK},
		{"rsh 0x20\nreta\n", 0, api.ErrArg},
		{"ja 0x0\nreta\n", 0, api.OK},
		{"jeq 0x5 0x1 0x0\nret 0x0\nret 0x1\n", 0, api.OK},
		{"jeq 0x5 0x2 0x0\nret 0x0\nret 0x1\n", 0, api.ErrJump},
		{"jeqx 0x0 0x2\nret 0x0\nret 0x1\n", 0, api.ErrJump},
		{"ret 0x0\nneg\n", 1, api.ErrEnd},
		{"ret 0x0\nja 0x0\n", 1, api.ErrJump},
		{"ret 0x0\njeq 0x0 0x0 0x0\n", 1, api.ErrJump},
	} {
		f, _, e := codec.Parse(c.text)
		if e != api.OK {
			t.Fatalf("Parse(%q): %d", c.text, e)
		}
		wantCheck(t, f, c.at, c.errno)
		wantAsExpected(t, f)
	}
}

// P5.1: the errors are the document's numbers.
func TestErrorNumbers(t *testing.T) {
	for _, c := range []struct {
		f    []api.Ins
		want int
	}{
		{nil, 5}, {make([]api.Ins, mostIns+1), 3}, {with(2, 0, api.Ins{Op: 8}), 1}, {with(2, 0, api.Ins{Op: 0x20, K: 2}), 6}, {with(2, 0, api.Ins{Op: 0x60, K: 16}), 7},
		{with(2, 0, api.Ins{Op: 0x34}), 8}, {with(2, 0, api.Ins{Op: 0x64, K: 32}), 1}, {with(2, 0, api.Ins{Op: 5, K: 1}), 4}, {neutral(1), 0},
	} {
		if at, e := check.Check(c.f); at != 0 || int(e) != c.want {
			t.Errorf("Check(%d: %+v): %d, %d; want 0, %d", len(c.f), head(c.f), at, e, c.want)
		}
	}
}

// P5.1: every operation with numbers at the edges, at the first index, in the middle, and as the last one.
func TestEveryOperation(t *testing.T) {
	sound := 0
	for op := range 256 {
		for _, k := range ks {
			x := api.Ins{Op: op, K: k}
			for _, f := range [][]api.Ins{{x}, with(2, 0, x), with(2, 1, x), with(9, 0, x), with(9, 4, x), with(9, 7, x), with(9, 8, x)} {
				if wantAsExpected(t, f) == api.OK {
					sound++
				}
			}
		}
	}
	if sound == 0 {
		t.Error("no filter was sound")
	}
}

// P5.1: a load reads from each multiple of 4 below 64, and from nowhere else.
func TestLoads(t *testing.T) {
	wantK := func(k uint32, errno api.Errno) {
		t.Helper()
		wantCheck(t, with(2, 0, api.Ins{Op: api.LdAbs, K: k}), 0, errno)
	}
	for k := range uint32(300) {
		if k == 4*(k/4) && k < 64 {
			wantK(k, api.OK)
		} else {
			wantK(k, api.ErrLoad)
		}
	}
	for _, k := range []uint32{0x100, 0x104, 0x10000, 0x10004, 0x1000000, 0x7ffffffc, 0x80000000, 0x80000004, 0xffffffc0, 0xfffffffc, 0xffffffff} {
		wantK(k, api.ErrLoad)
	}
}

// P5.1: cells, divisors and shifts at all small numbers, and at those that would be one's if they were cut.
func TestNumbers(t *testing.T) {
	large := []uint32{0x100, 0x101, 0x10000, 0x10001, 0x1000000, 0x7fffffff, 0x80000000, 0x80000001, 0xfffffff0, 0xfffffffe, 0xffffffff}
	small := make([]uint32, 300)
	for i := range small {
		small[i] = uint32(i)
	}
	for _, k := range append(small, large...) {
		for _, op := range cellOps {
			want := api.OK
			if k >= 16 {
				want = api.ErrCell
			}
			wantCheck(t, with(3, 1, api.Ins{Op: op, K: k}), at(want, 1), want)
		}
		for _, op := range shifts {
			want := api.OK
			if k >= 32 {
				want = api.ErrArg
			}
			wantCheck(t, with(3, 1, api.Ins{Op: op, K: k}), at(want, 1), want)
		}
		want := api.OK
		if k == 0 {
			want = api.ErrZero
		}
		wantCheck(t, with(3, 1, api.Ins{Op: api.DivK, K: k}), at(want, 1), want)
	}
}

// at answers the index with an error, and 0 with none.
func at(errno api.Errno, index int) int {
	if errno == api.OK {
		return 0
	}
	return index
}

// P5.1: operations with X and loads of numbers have no condition of their own.
func TestFreeOperations(t *testing.T) {
	for _, op := range bare {
		wantCheck(t, with(2, 0, api.Ins{Op: op}), 0, api.OK)
	}
	for _, op := range free {
		for _, k := range ks {
			wantCheck(t, with(2, 0, api.Ins{Op: op, K: k}), 0, api.OK)
		}
	}
}

// P5.1, P5.2: jumps from each index, up to the last instruction and just beyond it, in filters of many lengths.
func TestJumps(t *testing.T) {
	for _, count := range []int{1, 2, 3, 4, 5, 17, 255, 256, 257, 258, 300} {
		for _, from := range []int{0, 1, 2, count / 2, count - 3, count - 2, count - 1} {
			if from < 0 || from >= count {
				continue
			}
			behind := count - from - 1
			for _, k := range []int{0, 1, behind - 2, behind - 1, behind, behind + 1, behind + 2, count, math.MaxInt32, 1 << 16} {
				if k >= 0 {
					wantAsExpected(t, with(count, from, api.Ins{Op: api.Ja, K: uint32(k)}))
				}
			}
			for _, back := range []uint32{1, 2, uint32(from), uint32(from) + 1, uint32(count), 1 << 31, 1<<31 + 1} {
				wantAsExpected(t, with(count, from, api.Ins{Op: api.Ja, K: -back}))
			}
		}
	}
}

// P5.1, P5.2: a jump may be as long as a filter allows, and no longer.
func TestLongJumps(t *testing.T) {
	for _, k := range []uint32{0, 255, 256, mostIns - 3, mostIns - 2} {
		f := with(mostIns, 0, api.Ins{Op: api.Ja, K: k})
		wantCheck(t, f, 0, api.OK)
		if l := check.Next(f, 0); !slices.Equal(l, []int{int(k) + 1}) {
			t.Errorf("Next of ja %#x: %v", k, l)
		}
	}
	for _, k := range []uint32{mostIns - 1, mostIns, mostIns + 1, 0xffff, 0x7fffffff, 0x80000000, 0xfffff000, 0xfffffffe, 0xffffffff} {
		wantCheck(t, with(mostIns, 0, api.Ins{Op: api.Ja, K: k}), 0, api.ErrJump)
		wantCheck(t, with(mostIns, mostIns-2, api.Ins{Op: api.Ja, K: k}), mostIns-2, api.ErrJump)
	}
}

// P5.1, P5.2: branches of every operation with every pair of jumps about the filter's end.
func TestBranches(t *testing.T) {
	for _, op := range slices.Concat(branchKs, branchXs) {
		for count := 1; count <= 6; count++ {
			for from := range count {
				for jt := range 7 {
					for jf := range 7 {
						wantAsExpected(t, with(count, from, api.Ins{Op: op, Jt: jt, Jf: jf}))
					}
				}
			}
		}
	}
}

// P5.1, P5.2: the longest jumps of branches, in filters that are just long enough, or too short by one.
func TestLongBranches(t *testing.T) {
	for _, op := range slices.Concat(branchKs, branchXs) {
		for _, c := range []struct {
			jt, jf, count int
			next          []int
		}{
			{255, 255, 257, []int{256}}, {255, 0, 257, []int{1, 256}}, {0, 255, 257, []int{1, 256}}, {254, 255, 257, []int{255, 256}}, {255, 254, 300, []int{255, 256}}, {128, 127, 130, []int{128, 129}},
		} {
			x := api.Ins{Op: op, Jt: c.jt, Jf: c.jf}
			f := with(c.count, 0, x)
			wantCheck(t, f, 0, api.OK)
			if l := check.Next(f, 0); !slices.Equal(l, c.next) {
				t.Errorf("Next of %+v: %v; want %v", x, l, c.next)
			}
			short := max(c.jt, c.jf) + 1
			wantCheck(t, with(short, 0, x), 0, api.ErrJump)
			wantNoNext(t, with(short, 0, x), 0)
		}
	}
}

// P5.1: how many instructions there may be; too many is told ahead of all that is wrong with one.
func TestLengths(t *testing.T) {
	wantCheck(t, nil, 0, api.ErrEnd)
	wantCheck(t, []api.Ins{}, 0, api.ErrEnd)
	for _, n := range []int{1, 2, 255, 256, mostIns - 1, mostIns} {
		wantCheck(t, neutral(n), 0, api.OK)
		wantEncoding(t, neutral(n))
		wantCheck(t, append(neutral(n)[:n-1], api.Ins{Op: api.Neg}), n-1, api.ErrEnd)
	}
	for _, n := range []int{mostIns + 1, mostIns + 2, 2 * mostIns, 1 << 16, 1<<16 + 1} {
		wantCheck(t, neutral(n), 0, api.ErrFull)
		wantCheck(t, with(n, 0, api.Ins{Op: 8}), 0, api.ErrFull)
		wantCheck(t, with(n, 5, api.Ins{Op: api.DivK}), 0, api.ErrFull)
		wantCheck(t, with(n, n-1, api.Ins{Op: api.Tax}), 0, api.ErrFull)
		wantNoNext(t, neutral(n), 0, 1, mostIns, n-1)
	}
}

// P5.1: only RetK and RetA end a filter; that it has no end is told with the last index, and only if all else holds.
func TestEnds(t *testing.T) {
	for _, op := range slices.Concat(bare, free) {
		want := api.ErrEnd
		if op == api.RetA || op == api.RetK {
			want = api.OK
		}
		for _, n := range []int{1, 2, 3, 100} {
			wantCheck(t, with(n, n-1, api.Ins{Op: op}), at(want, n-1), want)
		}
	}
	end := api.Ins{Op: api.RetA}
	for _, last := range []api.Ins{{Op: api.LdAbs, K: 4}, {Op: api.St, K: 1}, {Op: api.DivK, K: 1}, {Op: api.LshK, K: 1}} {
		wantCheck(t, []api.Ins{end, last}, 1, api.ErrEnd)
	}
	for _, last := range []struct {
		x     api.Ins
		errno api.Errno
	}{
		{api.Ins{Op: api.Ja}, api.ErrJump}, {api.Ins{Op: api.JeqK}, api.ErrJump}, {api.Ins{Op: api.JsetX}, api.ErrJump},
		{api.Ins{Op: api.LdAbs, K: 1}, api.ErrLoad}, {api.Ins{Op: api.LdMem, K: 16}, api.ErrCell}, {api.Ins{Op: api.DivK}, api.ErrZero}, {api.Ins{Op: api.RshK, K: 32}, api.ErrArg}, {api.Ins{Op: 8}, api.ErrArg},
	} {
		wantCheck(t, []api.Ins{end, last.x}, 1, last.errno)
		wantCheck(t, []api.Ins{last.x}, 0, last.errno)
	}
	wantCheck(t, []api.Ins{{Op: api.DivK}, {Op: api.Tax}}, 0, api.ErrZero)
	wantCheck(t, []api.Ins{{Op: api.RetA}, {Op: api.RetK}, {Op: api.Txa}}, 2, api.ErrEnd)
}

// P5.1, P0 (R2): an instruction that is not valid is ErrArg, whatever else it breaks.
func TestNotValid(t *testing.T) {
	for _, x := range wrong {
		for _, c := range []struct{ count, at int }{{1, 0}, {2, 0}, {2, 1}, {5, 2}, {300, 299}, {300, 0}} {
			wantCheck(t, with(c.count, c.at, x), c.at, api.ErrArg)
			wantNoNext(t, with(c.count, c.at, x), 0, c.at, c.count-1)
		}
	}
}

// P5.1: of two wrong instructions the first one is told, of whatever kind they are, and also where no run gets.
func TestFirstFault(t *testing.T) {
	faults := []struct {
		x     api.Ins
		errno api.Errno
	}{
		{api.Ins{Op: 8}, api.ErrArg}, {api.Ins{Op: api.LdAbs, K: 1}, api.ErrLoad}, {api.Ins{Op: api.St, K: 16}, api.ErrCell}, {api.Ins{Op: api.DivK}, api.ErrZero},
		{api.Ins{Op: api.LshK, K: 32}, api.ErrArg}, {api.Ins{Op: api.Ja, K: 99}, api.ErrJump}, {api.Ins{Op: api.JeqK, Jt: 99}, api.ErrJump}, {api.Ins{Op: api.JeqX, Jf: 99}, api.ErrJump},
	}
	for _, a := range faults {
		for _, b := range faults {
			for first := range 4 {
				for second := first + 1; second < 6; second++ {
					f := neutral(6)
					f[first], f[second] = a.x, b.x
					wantCheck(t, f, first, a.errno)
				}
			}
		}
		wantCheck(t, []api.Ins{{Op: api.RetA}, a.x, {Op: api.RetA}}, 1, a.errno)
		wantCheck(t, []api.Ins{{Op: api.Ja, K: 1}, a.x, {Op: api.RetA}}, 1, a.errno)
		wantCheck(t, []api.Ins{a.x, {Op: api.Tax}}, 0, a.errno)
	}
}

// P5.2: where a run goes on: increasing, each index once, none at an end.
func TestNext(t *testing.T) {
	f, _, _ := codec.Parse("jset 0x1 0x4 0x1\njgtx 0x1 0x3\njeq 0x0 0x0 0x0\nja 0x2\nret 0x1\nneg\nreta\n")
	wantCheck(t, f, 0, api.OK)
	for at, want := range [][]int{{2, 5}, {3, 5}, {3}, {6}, nil, {6}, nil} {
		if l := check.Next(f, at); !slices.Equal(l, want) {
			t.Errorf("Next(%d): %v; want %v", at, l, want)
		}
	}
}

// P5.2, P0 (R1): at an index that there is not, a run goes on nowhere.
func TestNextAtNoIndex(t *testing.T) {
	for _, f := range [][]api.Ins{nil, {}, neutral(1), neutral(2), neutral(7), neutral(mostIns), {{Op: api.JeqK}, {Op: api.RetA}}, {{Op: api.Ja}, {Op: api.RetA}}} {
		wantNoNext(t, f, noIndices(len(f))...)
		if len(f) > 1 {
			// As it is the length that counts, not what memory lies behind it.
			wantNoNext(t, f[:len(f)-1], len(f)-1)
		}
	}
	wantNoNext(t, nil, 0)
	wantNoNext(t, []api.Ins{}, 0)
}

// P5.2: what a filter that is not sound has wrong counts at all its indices, also behind and ahead of it.
func TestNextOfUnsound(t *testing.T) {
	every := []int{0, 1, 2, 3, 4}
	for place := range every {
		for _, x := range append([]api.Ins{{Op: api.LdAbs, K: 2}, {Op: api.St, K: 16}, {Op: api.DivK}, {Op: api.LshK, K: 32}, {Op: api.Ja, K: 4}, {Op: api.JeqK, Jt: 4}, {Op: api.JeqX, Jf: 4}}, wrong...) {
			wantNoNext(t, with(5, place, x), every...)
		}
	}
	wantNoNext(t, with(5, 4, api.Ins{Op: api.Neg}), every...)
	if l := check.Next(neutral(5), 0); !slices.Equal(l, []int{1}) {
		t.Errorf("Next: %v", l)
	}
}

// P5.1 to P5.4: all filters of up to three instructions out of those at the edges.
func TestAllShortFilters(t *testing.T) {
	parts := []api.Ins{
		{Op: api.RetA}, {Op: api.RetK, K: 1}, {Op: api.Tax}, {Op: api.LdImm, K: 0xffffffff}, {Op: api.DivX}, {Op: 8}, {Op: api.RetA, K: 1}, {Op: api.RetK, Jt: 1},
		{Op: api.LdAbs, K: 60}, {Op: api.LdAbs, K: 62}, {Op: api.LdAbs, K: 64}, {Op: api.St, K: 15}, {Op: api.Stx, K: 16}, {Op: api.LdMem, K: 15}, {Op: api.LdxMem, K: 16},
		{Op: api.DivK}, {Op: api.DivK, K: 1}, {Op: api.LshK, K: 31}, {Op: api.RshK, K: 32}, {Op: api.Ja}, {Op: api.Ja, K: 1}, {Op: api.Ja, K: 2}, {Op: api.Ja, K: 0xffffffff},
		{Op: api.JeqK, K: 5}, {Op: api.JgtK, Jt: 1}, {Op: api.JgeX, Jf: 1}, {Op: api.JsetX, Jt: 1, Jf: 1}, {Op: api.JeqX, Jt: 2}, {Op: api.JsetK, Jf: 2}, {Op: api.JeqK, Jf: -1},
	}
	count := map[api.Errno]int{}
	for _, x := range parts {
		count[wantAsExpected(t, []api.Ins{x})]++
		for _, y := range parts {
			count[wantAsExpected(t, []api.Ins{x, y})]++
			for _, z := range parts {
				count[wantAsExpected(t, []api.Ins{x, y, z})]++
			}
		}
	}
	for _, e := range []api.Errno{api.OK, api.ErrArg, api.ErrJump, api.ErrEnd, api.ErrLoad, api.ErrCell, api.ErrZero} {
		if count[e] == 0 {
			t.Errorf("no filter has %d", e)
		}
	}
}

// P5.1 to P5.4: mixed filters, sound ones and spoilt ones.
func TestMixedFilters(t *testing.T) {
	spoilt := 0
	for seed := range 300 {
		n := 1 + seed%90
		if e := wantAsExpected(t, mixed(n, seed, false)); e != api.OK {
			t.Errorf("seed %d: %d", seed, e)
		}
		if wantAsExpected(t, mixed(n, seed, true)) != api.OK {
			spoilt++
		}
	}
	if spoilt == 0 {
		t.Error("no filter was spoilt")
	}
}

// P5.1, P5.4: the longest filter, of all operations, and with one fault at its first, an inner and its last index.
func TestLongFilter(t *testing.T) {
	f := mixed(mostIns, 7, false)
	wantCheck(t, f, 0, api.OK)
	wantEncoding(t, f)
	for _, at := range []int{0, 1, 255, 256, 2048, mostIns - 2, mostIns - 1} {
		g := slices.Clone(f)
		g[at] = api.Ins{Op: api.LdAbs, K: 2}
		wantCheck(t, g, at, api.ErrLoad)
		if l, want := check.Next(f, at), expectNext(f, at); !slices.Equal(l, want) {
			t.Errorf("Next(%d): %v; want %v", at, l, want)
		}
	}
}

// P0 (R3): arguments are left as they are, with the memory behind them.
func TestArgumentsAreLeft(t *testing.T) {
	for seed := range 50 {
		f := mixed(40, seed, seed%2 == 1)
		before := slices.Clone(f)
		cut := f[:20]
		check.Check(f)
		check.Sound(f)
		check.Check(cut)
		check.Sound(cut)
		for at := range f {
			check.Next(f, at)
			check.Next(cut, at)
		}
		if !slices.Equal(f, before) {
			t.Fatalf("seed %d: %+v, before %+v", seed, f, before)
		}
	}
}

// P0 (R3): what Next answers is new, also beyond its length, and nothing of an argument is kept.
func TestResultsAreNew(t *testing.T) {
	f := []api.Ins{{Op: api.JeqK, Jt: 1}, {Op: api.Ja}, {Op: api.Neg}, {Op: api.RetA}}
	want := [][]int{{1, 2}, {2}, {3}, nil}
	for range 3 {
		var got [][]int
		for at := range f {
			got = append(got, check.Next(f, at))
		}
		for at := range f {
			if !slices.Equal(got[at], want[at]) {
				t.Errorf("Next(%d): %v; want %v", at, got[at], want[at])
			}
			l := got[at][:cap(got[at])]
			for i := range l {
				l[i] = -99
			}
		}
	}
	l := check.Next(f, 0)
	f[0], f[1] = api.Ins{Op: api.RetA}, api.Ins{Op: 8}
	if !slices.Equal(l, want[0]) {
		t.Errorf("Next's answer became %v", l)
	}
	wantCheck(t, f, 1, api.ErrArg)
	f[1] = api.Ins{Op: api.Neg}
	wantCheck(t, f, 0, api.OK)
	wantNoNext(t, f, 0)
}

// P0 (R4): a call's result does not hang on the calls before it, nor on the order of a map.
func TestCallsAreRepeatable(t *testing.T) {
	type answer struct {
		at    int
		errno api.Errno
		sound bool
		next  int
	}
	var first []answer
	for round := range 5 {
		for seed := range 200 {
			f := mixed(30, seed, true)
			var a answer
			a.at, a.errno = check.Check(f)
			a.sound = check.Sound(f)
			for at := range f {
				for _, to := range check.Next(f, at) {
					a.next = a.next*31 + to
				}
			}
			if round == 0 {
				first = append(first, a)
			} else if a != first[seed] {
				t.Fatalf("seed %d: %+v, before %+v", seed, a, first[seed])
			}
		}
	}
}

// readFilter makes a filter, valid or not, of any bytes.
func readFilter(b []byte) []api.Ins {
	var f []api.Ins
	for len(b) >= 8 {
		k := uint32(b[4]) | uint32(b[5])<<8 | uint32(b[6])<<16 | uint32(b[7])<<24
		f = append(f, api.Ins{Op: int(b[0]) - int(b[1]), Jt: int(b[2]), Jf: int(b[3]), K: k})
		b = b[8:]
	}
	return f
}

// FuzzCheck holds all calls against the tests' own reading of the document, on any filters.
func FuzzCheck(f *testing.F) {
	for seed := range 40 {
		b, _ := codec.Encode(mixed(1+seed%12, seed, seed%3 == 0))
		f.Add(b)
	}
	f.Add([]byte{})
	f.Fuzz(func(t *testing.T, b []byte) {
		if len(b) <= 8*200 {
			wantAsExpected(t, readFilter(b))
		}
	})
}
