package code_test

import (
	"math"
	"slices"
	"testing"

	"hurdle/api"
	"hurdle/check"
	"hurdle/code"
	"hurdle/ins"
	"hurdle/run"
)

// The limits that the document names.
const (
	mostIns  = 4096
	nearest  = 254
	mostJump = 255
)

var (
	branchKs = []int{api.JeqK, api.JgtK, api.JgeK, api.JsetK}
	branchXs = []int{api.JeqX, api.JgtX, api.JgeX, api.JsetX}
	withK    = []int{
		api.LdImm, api.LdxImm, api.St, api.Stx, api.LdAbs, api.LdMem, api.LdxMem, api.RetK,
		api.AddK, api.SubK, api.MulK, api.DivK, api.OrK, api.AndK, api.LshK, api.RshK, api.XorK,
	}
	bare = []int{
		api.Neg, api.Tax, api.Txa, api.RetA,
		api.AddX, api.SubX, api.MulX, api.DivX, api.OrX, api.AndX, api.LshX, api.RshX, api.XorX,
	}
	ks = []uint32{0, 1, 5, 63, 64, 255, 256, 0x7fff0000, 0x7fffffff, 0x80000000, 0xffffffff}

	// noOps are no operation's numbers; some would be one's if they were cut to fewer bits.
	noOps = []int{8, 9, 0x0d, 0x1f, 0x21, 0x30, 0x35 + 0x100, 0x55, 0x5d, 0x94, 0xff, 0x100, 0x106, 0x115, 0x11d, 0x10015, 1<<32 + api.JeqK, 1<<32 + api.RetK, -1, api.JeqK - 0x100, math.MinInt, math.MinInt + api.JeqK, math.MaxInt}
)

// numbers answers numbers that look mixed, the same for each seed.
func numbers(seed int) func(below int) int {
	n := uint64(seed)*2 + 1
	return func(below int) int {
		n = n*6364136223846793005 + 1442695040888963407
		return int(n >> 33 % uint64(below))
	}
}

// some answers n instructions, each of which differs from those beside it. What they are doesn't matter to the calls.
func some(n int) []api.Ins {
	c := make([]api.Ins, n)
	for i := range c {
		c[i] = api.Ins{Op: i - 7, Jt: i * 3, Jf: -i, K: uint32(i) * 0x01000193}
	}
	return c
}

// wrongLabels answers numbers that are no labels of code of n instructions.
func wrongLabels(n int) []int {
	return []int{0, -1, -2, -n, -n - 1, n + 1, n + 2, n + 255, n + 256, 1 << 32, 1<<32 + 1, 1<<32 + n, 1<<16 + n + 1, math.MinInt, math.MinInt + 1, math.MinInt + n, math.MaxInt, math.MaxInt - 1, math.MinInt32, math.MaxInt32 + 1}
}

// The chapter, read in another way than the program does: where an instruction goes is told by labels, and only what is put
// at the front is made, from the last of it to the first.

type want struct {
	front []api.Ins
	label int
	errno api.Errno
}

func fault(e api.Errno) want {
	return want{errno: e}
}

func within(n int, front ...api.Ins) want {
	if n+len(front) > mostIns {
		return fault(api.ErrFull)
	}
	return want{front, n + len(front), api.OK}
}

// further answers how far the instruction with a label goes, to reach another one: one further is the label below it.
func further(from, to int) int {
	return (from - 1) - to
}

func wantAdd(n int, x api.Ins) want {
	plain := slices.Contains(withK, x.Op) || slices.Contains(bare, x.Op) && x.K == 0
	if !plain || x.Jt != 0 || x.Jf != 0 {
		return fault(api.ErrArg)
	}
	return within(n, x)
}

func wantJump(n, to int) want {
	switch {
	case to < 1 || to > n:
		return fault(api.ErrJump)
	case to == n:
		return within(n)
	}
	return within(n, api.Ins{Op: api.Ja, K: uint32(further(n+1, to))})
}

func wantBranch(n, op int, k uint32, t, f int) want {
	switch {
	case !slices.Contains(branchKs, op) && !slices.Contains(branchXs, op):
		return fault(api.ErrArg)
	case slices.Contains(branchXs, op) && k != 0:
		return fault(api.ErrArg)
	case min(t, f) < 1 || max(t, f) > n:
		return fault(api.ErrJump)
	}
	var behind []api.Ins // from the last to the first
	front := n
	for _, to := range []*int{&t, &f} {
		if *to >= front-nearest {
			continue
		}
		front++
		behind = append(behind, api.Ins{Op: api.Ja, K: uint32(further(front, *to))})
		*to = front
	}
	front++
	behind = append(behind, api.Ins{Op: op, K: k, Jt: further(front, t), Jf: further(front, f)})
	slices.Reverse(behind)
	return within(n, behind...)
}

// hold holds what a call answered for c against what is wanted.
func hold(t *testing.T, c []api.Ins, w want, got []api.Ins, label int, errno api.Errno, call string, args ...any) {
	t.Helper()
	if errno != w.errno || label != w.label {
		t.Errorf("%s%v, of %d: label %d, error %d; want %d, %d", call, args, len(c), label, errno, w.label, w.errno)
		return
	}
	n := len(w.front)
	if len(got) != n+len(c) || !slices.Equal(got[:n], w.front) || !slices.Equal(got[n:], c) {
		t.Errorf("%s%v, of %d: %d instructions, %+v first; want %+v, and the same behind", call, args, len(c), len(got), got[:min(4, len(got))], w.front)
	}
}

func holdAdd(t *testing.T, c []api.Ins, x api.Ins) {
	t.Helper()
	got, l, e := code.Add(c, x)
	hold(t, c, wantAdd(len(c), x), got, l, e, "Add", x)
}

func holdJump(t *testing.T, c []api.Ins, to int) {
	t.Helper()
	got, l, e := code.Jump(c, to)
	hold(t, c, wantJump(len(c), to), got, l, e, "Jump", to)
}

func holdBranch(t *testing.T, c []api.Ins, op int, k uint32, to, or int) {
	t.Helper()
	got, l, e := code.Branch(c, op, k, to, or)
	hold(t, c, wantBranch(len(c), op, k, to, or), got, l, e, "Branch", op, k, to, or)
}

// P12.1 to P12.3: the example of the chapter, step by step.
func TestExample(t *testing.T) {
	c, zero, e := code.Add(nil, api.Ins{Op: api.RetK})
	if zero != 1 || e != api.OK || !slices.Equal(c, []api.Ins{{Op: api.RetK}}) {
		t.Fatalf("ret 0x0: %+v, %d, %d", c, zero, e)
	}
	c, one, e := code.Add(c, api.Ins{Op: api.RetK, K: 1})
	if one != 2 || e != api.OK || !slices.Equal(c, []api.Ins{{Op: api.RetK, K: 1}, {Op: api.RetK}}) {
		t.Fatalf("ret 0x1: %+v, %d, %d", c, one, e)
	}
	c, front, e := code.Branch(c, api.JeqK, 5, one, zero)
	if front != 3 || e != api.OK || !slices.Equal(c, []api.Ins{{Op: api.JeqK, K: 5, Jf: 1}, {Op: api.RetK, K: 1}, {Op: api.RetK}}) {
		t.Errorf("jeq: %+v, %d, %d", c, front, e)
	}
	again, l, e := code.Jump(c, 3)
	if l != 3 || e != api.OK || !slices.Equal(again, c) {
		t.Errorf("jump to the front: %+v, %d, %d", again, l, e)
	}
	jumped, l, e := code.Jump(c, 1)
	if l != 4 || e != api.OK || !slices.Equal(jumped[1:], c) || jumped[0] != (api.Ins{Op: api.Ja, K: 2}) {
		t.Errorf("jump to the end: %+v, %d, %d", jumped, l, e)
	}
}

// P12.1: instructions of all operations, with all fields at their edges, on code of any length.
func TestAdd(t *testing.T) {
	ops := slices.Concat(withK, bare, branchKs, branchXs, []int{api.Ja}, noOps)
	jumps := []int{0, 1, -1, 255, 256, math.MinInt, math.MaxInt}
	for _, n := range []int{0, 1, 2, 300, mostIns - 1, mostIns, mostIns + 1, 2 * mostIns} {
		c := some(n)
		for _, op := range ops {
			for _, k := range ks {
				holdAdd(t, c, api.Ins{Op: op, K: k})
			}
			for _, j := range jumps {
				holdAdd(t, c, api.Ins{Op: op, Jt: j})
				holdAdd(t, c, api.Ins{Op: op, Jf: j})
			}
		}
	}
}

// P12.1: the list of operations that the tests hold the program against tells apart what the instructions' layer does.
func TestOperationsAreWhole(t *testing.T) {
	count := 0
	for op := -0x200; op < 0x200; op++ {
		x := api.Ins{Op: op}
		if ins.Right(x) {
			count++
		}
		plain := ins.Right(x) && !ins.Branch(x) && op != api.Ja
		if _, _, e := code.Add(nil, x); (e == api.OK) != plain {
			t.Errorf("Add(%+v): %d", x, e)
		}
		if _, _, e := code.Branch(some(2), op, 0, 1, 2); (e == api.OK) != ins.Branch(x) {
			t.Errorf("Branch(%#x): %d", op, e)
		}
	}
	if n := len(withK) + len(bare) + len(branchKs) + len(branchXs) + 1; n != count {
		t.Errorf("%d operations are listed, and there are %d", n, count)
	}
}

// P12.2: to every label, and to such as there are not.
func TestJump(t *testing.T) {
	for _, n := range []int{0, 1, 2, 3, 10, 253, 254, 255, 256, 257, 258, 600, mostIns - 1, mostIns, mostIns + 1} {
		c := some(n)
		for to := range n + 3 {
			holdJump(t, c, to)
		}
		for _, to := range wrongLabels(n) {
			holdJump(t, c, to)
		}
	}
}

// P12.3: every pair of labels, on code about as long as labels are near.
func TestBranchToAllLabels(t *testing.T) {
	for _, n := range []int{0, 1, 2, 3, 254, 255, 256, 257, 258} {
		c := some(n)
		for to := range n + 2 {
			for or := range n + 2 {
				holdBranch(t, c, api.JgtK, 7, to, or)
			}
		}
	}
}

// P12.3: labels at the edges of what is near, on long code, for all operations.
func TestBranchAtTheEdges(t *testing.T) {
	ops := slices.Concat(branchKs, branchXs, []int{api.Ja, api.RetK, api.RetA, api.AddK, api.Neg}, noOps)
	for _, n := range []int{1, 256, 300, 512, 1000, mostIns - 4, mostIns - 3, mostIns - 2, mostIns - 1, mostIns, mostIns + 1} {
		c := some(n)
		labels := []int{1, 2, 3, n / 2, n - 257, n - 256, n - 255, n - 254, n - 253, n - 252, n - 2, n - 1, n, n + 1, 0, -1}
		for i, to := range labels {
			for j, or := range labels {
				op := ops[(i*len(labels)+j)%len(ops)]
				holdBranch(t, c, op, 0, to, or)
				holdBranch(t, c, api.JsetK, 0xffffffff, to, or)
				holdBranch(t, c, api.JeqX, 0, to, or)
			}
		}
	}
}

// P12.3: a number for every operation, and operations that no branch has.
func TestBranchOperations(t *testing.T) {
	ops := slices.Concat(branchKs, branchXs, withK, bare, []int{api.Ja}, noOps)
	for _, n := range []int{0, 2, 300} {
		c := some(n)
		for _, op := range ops {
			for _, k := range ks {
				holdBranch(t, c, op, k, n, 1)
				holdBranch(t, c, op, k, 0, n+1)
			}
		}
	}
}

// P12.3: labels that there are not, in either place and in both.
func TestBranchToNoLabel(t *testing.T) {
	for _, n := range []int{0, 1, 2, 255, 300} {
		c := some(n)
		for _, to := range wrongLabels(n) {
			for _, or := range append(wrongLabels(n), 1, n) {
				holdBranch(t, c, api.JeqK, 5, to, or)
				holdBranch(t, c, api.JeqK, 5, or, to)
				holdBranch(t, c, api.JeqX, 5, to, or)
			}
		}
	}
}

// P12.1 to P12.3, P0 (R2): code that is full tells so, but only where nothing else is wrong.
func TestFull(t *testing.T) {
	add := func(n int, x api.Ins) api.Errno { _, _, e := code.Add(some(n), x); return e }
	jump := func(n, to int) api.Errno { _, _, e := code.Jump(some(n), to); return e }
	branch := func(n, op int, k uint32, t, f int) api.Errno { _, _, e := code.Branch(some(n), op, k, t, f); return e }
	tax := api.Ins{Op: api.Tax}
	for _, c := range []struct {
		call      string
		got, want api.Errno
	}{
		{"Add, the last that there is room for", add(mostIns-1, tax), api.OK},
		{"Add, one too many", add(mostIns, tax), api.ErrFull},
		{"Add, not valid and one too many", add(mostIns, api.Ins{Op: api.Tax, K: 1}), api.ErrArg},
		{"Add, a branch and one too many", add(mostIns, api.Ins{Op: api.JeqK}), api.ErrArg},
		{"Jump, the last", jump(mostIns-1, 1), api.OK},
		{"Jump, one too many", jump(mostIns, 1), api.ErrFull},
		{"Jump, to the front of full code", jump(mostIns, mostIns), api.OK},
		{"Jump, to the front of too much code", jump(mostIns+1, mostIns+1), api.ErrFull},
		{"Jump, to no label and one too many", jump(mostIns, mostIns+1), api.ErrJump},
		{"Branch, the last", branch(mostIns-1, api.JeqK, 5, mostIns-1, mostIns-255), api.OK},
		{"Branch, one too many", branch(mostIns, api.JeqK, 5, mostIns, mostIns), api.ErrFull},
		{"Branch, with a jump for t, the last", branch(mostIns-2, api.JeqK, 5, 1, mostIns-2), api.OK},
		{"Branch, with a jump for t, one too many", branch(mostIns-1, api.JeqK, 5, 1, mostIns-1), api.ErrFull},
		{"Branch, with a jump for f, the last", branch(mostIns-2, api.JeqK, 5, mostIns-2, 1), api.OK},
		{"Branch, with a jump for f, one too many", branch(mostIns-1, api.JeqK, 5, mostIns-1, 1), api.ErrFull},
		{"Branch, with both jumps, the last", branch(mostIns-3, api.JeqK, 5, 1, 1), api.OK},
		{"Branch, with both jumps, one too many", branch(mostIns-2, api.JeqK, 5, 1, 1), api.ErrFull},
		{"Branch, with both jumps, two too many", branch(mostIns-1, api.JeqK, 5, 1, 1), api.ErrFull},
		{"Branch, with both jumps, three too many", branch(mostIns, api.JeqK, 5, 1, 1), api.ErrFull},
		{"Branch, no label and one too many", branch(mostIns, api.JeqK, 5, 1, mostIns+1), api.ErrJump},
		{"Branch, no branch and no label and one too many", branch(mostIns, api.JeqX, 5, 0, 0), api.ErrArg},
	} {
		if c.got != c.want {
			t.Errorf("%s: %d; want %d", c.call, c.got, c.want)
		}
	}
}

// P12.1 to P12.3: with an error the code comes back as it was.
func TestCodeComesBackWithAnError(t *testing.T) {
	for _, n := range []int{0, 1, 300, mostIns - 1, mostIns, mostIns + 5} {
		c := some(n)
		before := slices.Clone(c)
		for i, call := range []func() ([]api.Ins, int, api.Errno){
			func() ([]api.Ins, int, api.Errno) { return code.Add(c, api.Ins{Op: api.Ja}) },
			func() ([]api.Ins, int, api.Errno) { return code.Jump(c, n+1) },
			func() ([]api.Ins, int, api.Errno) { return code.Branch(c, api.Ja, 0, 1, 1) },
			func() ([]api.Ins, int, api.Errno) { return code.Branch(c, api.JeqK, 0, 1, n+1) },
			func() ([]api.Ins, int, api.Errno) { return code.Branch(c, api.JeqK, 0, n+1, 1) },
			func() ([]api.Ins, int, api.Errno) { return code.Branch(some(mostIns-1), api.JeqK, 0, 1, 1) },
		} {
			want := before
			if i == 5 {
				want = some(mostIns - 1)
			}
			if got, l, e := call(); l != 0 || e == api.OK || !slices.Equal(got, want) {
				t.Errorf("call %d, of %d: %d instructions, label %d, error %d", i, n, len(got), l, e)
			}
		}
		if !slices.Equal(c, before) {
			t.Errorf("code of %d was modified", n)
		}
	}
}

// build answers sound code that was put together by mixed calls, and the codes that it was on the way.
func build(seed, most int) [][]api.Ins {
	next := numbers(seed)
	var c []api.Ins
	var all [][]api.Ins
	for len(c) < most {
		switch {
		case len(c) == 0 || next(12) == 0:
			c, _, _ = code.Add(c, api.Ins{Op: api.RetK, K: uint32(next(9))})
		case next(4) == 0:
			c, _, _ = code.Add(c, api.Ins{Op: []int{api.AddK, api.XorK, api.LdAbs}[next(3)], K: uint32(next(16) * 4)})
		case next(6) == 0:
			c, _, _ = code.Jump(c, 1+next(len(c)))
		default:
			c, _, _ = code.Branch(c, branchKs[next(4)], uint32(next(64)), 1+next(len(c)), max(1, len(c)-next(300)))
		}
		all = append(all, c)
	}
	return all
}

// P12.4: the code from each label is the same, and does the same, however it has grown.
func TestGrownCodeDoesTheSame(t *testing.T) {
	var records []api.Data
	for i := range uint32(6) {
		records = append(records, api.Data{Nr: i * 7, Arch: i * i * 5, Ip: uint64(i) << 33, Args: [6]uint64{uint64(i) * 9, 63, 1 << 32}})
	}
	for seed := range 4 {
		all := build(seed, 900)
		last := all[len(all)-1]
		if _, e := check.Check(last); e != api.OK {
			t.Fatalf("seed %d: the code isn't sound: %d", seed, e)
		}
		for _, c := range all {
			l := len(c) // the front's label, then and now
			if !slices.Equal(last[len(last)-l:], c) {
				t.Fatalf("seed %d: the code from label %d was modified", seed, l)
			}
			jumped, _, _ := code.Jump(last, l)
			for _, d := range records {
				action, count, _ := run.Run(c, d)
				again, more, e := run.Run(jumped, d)
				extra := 1
				if l == len(last) {
					extra = 0
				}
				if again != action || more != count+extra || e != api.OK {
					t.Fatalf("seed %d: from label %d: %#x after %d, before it %#x after %d", seed, l, again, more, action, count)
				}
			}
		}
	}
}

// lands answers the label to which a branch at the front goes, and how many jumps it takes.
func lands(c []api.Ins, taken bool) (label, jumps int) {
	at := 1 + c[0].Jf
	if taken {
		at = 1 + c[0].Jt
	}
	for at < len(c) && c[at].Op == api.Ja {
		at += 1 + int(c[at].K)
		jumps++
	}
	return len(c) - at, jumps
}

// P12.5: a branch goes where its labels say, by at most one jump, and none to what is near.
func TestBranchGoesToItsLabels(t *testing.T) {
	for _, n := range []int{1, 2, 254, 255, 256, 257, 258, 509, 510, 511, 1200, mostIns - 3} {
		c := make([]api.Ins, n) // it has no jumps of its own
		for i := range c {
			c[i] = api.Ins{Op: api.RetK, K: uint32(n - i)}
		}
		next := numbers(n)
		for i := range 400 {
			to, or := 1+next(n), 1+next(n)
			if i%2 == 0 {
				to = max(1, n-250-next(8))
			}
			if i%3 == 0 {
				or = max(1, n-250-next(8))
			}
			x, front, e := code.Branch(c, api.JgeK, 9, to, or)
			if e != api.OK || front != len(x) || len(x) > n+3 || !ins.Branch(x[0]) || !ins.Right(x[0]) {
				t.Fatalf("Branch(%d, %d), of %d: %d instructions, label %d, error %d", to, or, n, len(x), front, e)
			}
			first, jumps := lands(x, true)
			second, others := lands(x, false)
			if first != to || second != or || jumps > 1 || others > 1 {
				t.Errorf("Branch(%d, %d), of %d: goes to %d and %d, by %d and %d jumps", to, or, n, first, second, jumps, others)
			}
			if to >= n-nearest && jumps != 0 || or >= n-nearest+1 && others != 0 {
				t.Errorf("Branch(%d, %d), of %d: %d and %d jumps to what is near", to, or, n, jumps, others)
			}
		}
	}
}

// P12.5: a branch that goes as far as any may goes there, also where the jump of the other label comes between.
func TestFarthestBranch(t *testing.T) {
	c := some(600)
	x, _, _ := code.Branch(c, api.JeqK, 1, 600-nearest, 600-nearest)
	if len(x) != 601 || x[0].Jt != nearest || x[0].Jf != nearest {
		t.Errorf("both labels near: %+v", x[:2])
	}
	x, _, _ = code.Branch(c, api.JeqK, 1, 600-nearest, 600-nearest-1)
	if len(x) != 602 || x[0].Jt != mostJump || x[0].Jf != 0 || x[1] != (api.Ins{Op: api.Ja, K: mostJump}) {
		t.Errorf("only t near: %+v", x[:3])
	}
	x, _, _ = code.Branch(c, api.JeqK, 1, 600-nearest-1, 600-nearest)
	if len(x) != 603 || x[0].Jt != 1 || x[0].Jf != 0 || x[1] != (api.Ins{Op: api.Ja, K: mostJump}) || x[2] != (api.Ins{Op: api.Ja, K: mostJump}) {
		t.Errorf("f is not near any more, once the jump for t is there: %+v", x[:4])
	}
	x, _, _ = code.Branch(c, api.JeqK, 1, 1, 600-nearest+1)
	if len(x) != 602 || x[0].Jt != 0 || x[0].Jf != nearest || x[1] != (api.Ins{Op: api.Ja, K: 599}) {
		t.Errorf("f is just near, once the jump for t is there: %+v", x[:3])
	}
}

// calls answers what each of the calls makes of code of at least 600 instructions.
func calls(c []api.Ins) [][]api.Ins {
	n := len(c)
	var all [][]api.Ins
	keep := func(x []api.Ins, _ int, _ api.Errno) { all = append(all, x) }
	keep(code.Add(c, api.Ins{Op: api.Tax}))
	keep(code.Jump(c, 1))
	keep(code.Branch(c, api.JeqK, 5, n, n-1))
	keep(code.Branch(c, api.JeqK, 5, 1, n))
	keep(code.Branch(c, api.JeqK, 5, n, 1))
	keep(code.Branch(c, api.JeqK, 5, 2, 1))
	return all
}

// P0 (R3): code that was handed in is neither modified nor kept, with what is behind it in its memory; new code shares
// memory with no other.
func TestMemoryIsNotShared(t *testing.T) {
	room := some(700)
	c := room[20:620]
	before := slices.Clone(room)
	results := calls(c)
	copies := [][]api.Ins{}
	for _, x := range results {
		copies = append(copies, slices.Clone(x))
	}
	if !slices.Equal(room, before) {
		t.Fatal("the code was modified")
	}
	for i, x := range results {
		x = x[:cap(x)]
		for j := range x {
			x[j] = api.Ins{Op: -1, K: uint32(i)}
		}
		for j := i + 1; j < len(results); j++ {
			if !slices.Equal(results[j], copies[j]) {
				t.Fatalf("code %d shares memory with code %d", j, i)
			}
		}
	}
	if !slices.Equal(room, before) {
		t.Fatal("new code shares memory with the one handed in")
	}
	results = calls(c)
	for i := range room {
		room[i] = api.Ins{Op: -2}
	}
	for i, x := range results {
		if !slices.Equal(x, copies[i]) {
			t.Errorf("code %d shares memory with the one handed in", i)
		}
	}
}

// P0 (R3): two codes that grow from one don't disturb each other, with spare room or without.
func TestCodesGrowApart(t *testing.T) {
	c, _, _ := code.Add(make([]api.Ins, 0, 64), api.Ins{Op: api.RetA})
	for range 40 {
		one, _, _ := code.Add(c, api.Ins{Op: api.LdImm, K: 1})
		two, _, _ := code.Add(c, api.Ins{Op: api.LdImm, K: 2})
		if one[0].K != 1 || two[0].K != 2 || !slices.Equal(one[1:], two[1:]) {
			t.Fatalf("%+v and %+v", one[0], two[0])
		}
		c = one
	}
}

// P0 (R3): nil and empty code are alike.
func TestNilAndEmpty(t *testing.T) {
	for _, c := range [][]api.Ins{nil, {}, make([]api.Ins, 0, 8)} {
		holdAdd(t, c, api.Ins{Op: api.RetA})
		holdAdd(t, c, api.Ins{Op: api.Ja})
		for to := -1; to < 3; to++ {
			holdJump(t, c, to)
			holdBranch(t, c, api.JeqK, 5, to, to)
		}
	}
}

// P0 (R4): a call's result does not hang on the calls before it.
func TestCallsAreRepeatable(t *testing.T) {
	first := build(7, 400)
	calls(some(700))
	second := build(7, 400)
	if !slices.EqualFunc(first, second, slices.Equal[[]api.Ins]) {
		t.Error("the same calls put another code together")
	}
}

// FuzzCalls holds the calls against the tests' own reading, on any arguments.
func FuzzCalls(f *testing.F) {
	f.Add(uint16(0), api.RetK, uint32(0), 0, 0)
	f.Add(uint16(300), api.JeqK, uint32(5), 1, 300)
	f.Add(uint16(4095), api.JeqX, uint32(0), 4095, 1)
	f.Add(uint16(4096), api.Ja, uint32(0), 4096, -1)
	f.Add(uint16(510), api.JsetK, uint32(1), 255, 256)
	f.Fuzz(func(t *testing.T, n uint16, op int, k uint32, to, or int) {
		c := some(int(n) % 5000)
		holdAdd(t, c, api.Ins{Op: op, K: k})
		holdAdd(t, c, api.Ins{Op: op, K: k, Jt: to, Jf: or})
		holdJump(t, c, to)
		holdBranch(t, c, op, k, to, or)
	})
}
