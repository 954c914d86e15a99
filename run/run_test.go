package run_test

import (
	"encoding/binary"
	"math"
	"slices"
	"testing"

	"hurdle/api"
	"hurdle/check"
	"hurdle/codec"
	"hurdle/run"
)

// The tests' own numbers, written out: they are what the document names.
const (
	mostIns  = 4096
	cells    = 16
	dataLen  = 64
	mostJump = 255
	kill     = 0
)

var (
	// bare are the operations without a number but the arithmetic.
	bare = []int{api.Neg, api.Tax, api.Txa, api.RetA}
	// free are those with a number that may be any, but the arithmetic.
	free     = []int{api.LdImm, api.LdxImm, api.RetK}
	cellOps  = []int{api.St, api.Stx, api.LdMem, api.LdxMem}
	aluKs    = []int{api.AddK, api.SubK, api.MulK, api.DivK, api.OrK, api.AndK, api.LshK, api.RshK, api.XorK}
	aluXs    = []int{api.AddX, api.SubX, api.MulX, api.DivX, api.OrX, api.AndX, api.LshX, api.RshX, api.XorX}
	branchKs = []int{api.JeqK, api.JgtK, api.JgeK, api.JsetK}
	branchXs = []int{api.JeqX, api.JgtX, api.JgeX, api.JsetX}
	every    = slices.Concat(bare, free, cellOps, aluKs, aluXs, branchKs, branchXs, []int{api.LdAbs, api.Ja})

	// edges are numbers at which a sign, a carry, a shift or a place may go wrong.
	edges = []uint32{
		0, 1, 2, 3, 4, 5, 7, 8, 15, 16, 17, 20, 31, 32, 33, 56, 60, 61, 63, 64, 68, 255, 256, 272, 0xffff, 0x10000, 0x10004,
		0x55555555, 0x7fffffff, 0x80000000, 0x80000001, 0xaaaaaaaa, 0xfffffffc, 0xfffffffe, 0xffffffff,
	}

	// noOps are no operation's numbers; some would be one's if they were cut to fewer bits.
	noOps = []int{8, 9, 0x0d, 0x1f, 0x21, 0x30, 0x94, 0x9c, 0xb4, 0xff, 0x100, 0x104, 0x115, 0x120, 0x10004, 0x10034, 1<<32 + api.AddK, 1<<32 + api.JeqK, -1, -8, api.DivX - 0x100, math.MinInt, math.MinInt + api.DivX, math.MaxInt}
)

func among(op int, lists ...[]int) bool {
	return slices.Contains(slices.Concat(lists...), op)
}

// machine reads the document in another way than the program: registers in 64 bits, cells by their numbers, a record by
// its bytes.
type machine struct {
	a, x   uint64
	cells  map[uint64]uint64
	record []byte
	loads  map[uint32]int // how often each position was loaded from
}

func machineOf(s api.State, d api.Data) *machine {
	m := &machine{a: uint64(s.A), x: uint64(s.X), cells: map[uint64]uint64{}, loads: map[uint32]int{}}
	for i, v := range s.M {
		m.cells[uint64(i)] = uint64(v)
	}
	m.record = binary.LittleEndian.AppendUint32(m.record, d.Nr)
	m.record = binary.LittleEndian.AppendUint32(m.record, d.Arch)
	m.record = binary.LittleEndian.AppendUint64(m.record, d.Ip)
	for _, arg := range d.Args {
		m.record = binary.LittleEndian.AppendUint64(m.record, arg)
	}
	return m
}

func (m *machine) state() api.State {
	s := api.State{A: uint32(m.a), X: uint32(m.x)}
	for i := range s.M {
		s.M[i] = uint32(m.cells[uint64(i)])
	}
	return s
}

func (m *machine) load(at uint32) uint64 {
	m.loads[at]++
	if at > dataLen-4 || at&3 != 0 {
		return 0
	}
	return uint64(binary.LittleEndian.Uint32(m.record[at:]))
}

func (m *machine) store(k, v uint64) {
	if k < cells {
		m.cells[k] = v
	}
}

// step does an instruction; false, if it stops a run.
func (m *machine) step(x api.Ins) bool {
	k := uint64(x.K)
	switch {
	case x.Op == api.LdImm:
		m.a = k
	case x.Op == api.LdxImm:
		m.x = k
	case x.Op == api.LdAbs:
		m.a = m.load(x.K)
	case x.Op == api.LdMem:
		m.a = m.cells[k]
	case x.Op == api.LdxMem:
		m.x = m.cells[k]
	case x.Op == api.St:
		m.store(k, m.a)
	case x.Op == api.Stx:
		m.store(k, m.x)
	case x.Op == api.Tax:
		m.x = m.a
	case x.Op == api.Txa:
		m.a = m.x
	case x.Op == api.Neg:
		m.a = (1<<32 - m.a) % (1 << 32)
	case among(x.Op, aluKs):
		return m.arithmetic(slices.Index(aluKs, x.Op), k)
	case among(x.Op, aluXs):
		return m.arithmetic(slices.Index(aluXs, x.Op), m.x)
	}
	return true
}

// arithmetic does a kind, by its place in the lists.
func (m *machine) arithmetic(kind int, b uint64) bool {
	if kind == 3 && b == 0 {
		return false
	}
	do := []func() uint64{
		func() uint64 { return m.a + b },
		func() uint64 { return m.a + 1<<32 - b },
		func() uint64 { return m.a * b },
		func() uint64 { return (m.a - m.a%b) / b },
		func() uint64 { return m.a + b - m.a&b },
		func() uint64 { return m.a + b - (m.a | b) },
		func() uint64 { return m.a << (b % 32) },
		func() uint64 { return m.a / (1 << (b % 32)) },
		func() uint64 { return (m.a | b) - m.a&b },
	}
	m.a = do[kind]() % (1 << 32)
	return true
}

// takes: does the condition of a branch hold?
func (m *machine) takes(x api.Ins) bool {
	b, kind := uint64(x.K), slices.Index(branchKs, x.Op)
	if kind < 0 {
		b, kind = m.x, slices.Index(branchXs, x.Op)
	}
	switch kind {
	case 0:
		return m.a^b == 0
	case 1:
		return int64(m.a)-int64(b) > 0
	case 2:
		return int64(m.a)-int64(b) > -1
	case 3:
		for bit := range 32 {
			if m.a>>bit%2 == 1 && b>>bit%2 == 1 {
				return true
			}
		}
	}
	return false
}

// trace is what a run of a sound filter must come to: its result, the indices that it passes, and whether it stops.
type trace struct {
	result uint32
	path   []int
	stops  bool
	loads  map[uint32]int
}

func traceOf(f []api.Ins, d api.Data) trace {
	m := machineOf(api.State{}, d)
	t := trace{loads: m.loads}
	for at := 0; ; {
		x := f[at]
		t.path = append(t.path, at)
		at++
		switch {
		case x.Op == api.RetK:
			t.result = x.K
			return t
		case x.Op == api.RetA:
			t.result = uint32(m.a)
			return t
		case x.Op == api.Ja:
			at += int(x.K)
		case m.takes(x):
			at += x.Jt
		case among(x.Op, branchKs, branchXs):
			at += x.Jf
		case !m.step(x):
			t.result, t.stops = kill, true
			return t
		}
	}
}

// head keeps the messages about long filters short.
func head(f []api.Ins) []api.Ins {
	return f[:min(len(f), 8)]
}

// wantRun holds Run against what it must answer.
func wantRun(t *testing.T, f []api.Ins, d api.Data, result uint32, count int, errno api.Errno) {
	t.Helper()
	if v, n, e := run.Run(f, d); v != result || n != count || e != errno {
		t.Errorf("Run(%d: %+v, %+v): %#x, %d, %d; want %#x, %d, %d", len(f), head(f), d, v, n, e, result, count, errno)
	}
}

// wantTrace holds Run against the tests' own reading of the document, and that against P6.3.
func wantTrace(t *testing.T, f []api.Ins, d api.Data) trace {
	t.Helper()
	if !check.Sound(f) {
		wantRun(t, f, d, 0, 0, api.ErrArg)
		return trace{}
	}
	want := traceOf(f, d)
	wantRun(t, f, d, want.result, len(want.path), api.OK)
	if _, n, _ := run.Run(f, d); n < 1 || n > len(f) {
		t.Errorf("Run(%d: %+v): %d instructions", len(f), head(f), n)
	}
	for i := 1; i < len(want.path); i++ {
		if want.path[i] <= want.path[i-1] {
			t.Errorf("a run of %d: %+v goes by %v", len(f), head(f), want.path)
		}
	}
	return want
}

// wantStep holds Step and Takes against the tests' own reading of the document.
func wantStep(t *testing.T, s api.State, x api.Ins, d api.Data) {
	t.Helper()
	m := machineOf(s, d)
	takes, ok := m.takes(x), m.step(x)
	want := m.state()
	if !ok {
		want = s
	}
	if got, gotOK := run.Step(s, x, d); got != want || gotOK != ok {
		t.Errorf("Step(%+v, %+v, %+v): %+v, %v; want %+v, %v", s, x, d, got, gotOK, want, ok)
	}
	if got := run.Takes(s, x); got != takes {
		t.Errorf("Takes(%+v, %+v): %v; want %v", s, x, got, takes)
	}
}

// numbers makes the same numbers below n for the same seed.
func numbers(seed int) func(n int) int {
	state := uint64(seed)*0x9e3779b97f4a7c15 + 1
	return func(n int) int {
		state = state*6364136223846793005 + 1442695040888963407
		return int(state>>33) % n
	}
}

// word32 answers an edge, a small number, or any.
func word32(next func(n int) int) uint32 {
	switch next(3) {
	case 0:
		return edges[next(len(edges))]
	case 1:
		return uint32(next(9))
	}
	return uint32(next(1<<16))<<16 | uint32(next(1<<16))
}

func word64(next func(n int) int) uint64 {
	return uint64(word32(next))<<32 | uint64(word32(next))
}

// someRecord answers a record, which differs by the seed.
func someRecord(seed int) api.Data {
	next := numbers(seed)
	d := api.Data{Nr: word32(next), Arch: word32(next), Ip: word64(next)}
	for i := range d.Args {
		d.Args[i] = word64(next)
	}
	return d
}

// someState answers a state, which differs by the seed.
func someState(seed int) api.State {
	next := numbers(seed)
	s := api.State{A: word32(next), X: word32(next)}
	for i := range s.M {
		s.M[i] = word32(next)
	}
	return s
}

// mixed answers a sound filter of count instructions of all operations, which differs by the seed. Its jumps are mostly
// short and its inner ends few, so that runs get far.
func mixed(count, seed int) []api.Ins {
	next := numbers(seed)
	f := make([]api.Ins, count)
	for at := range f {
		behind := count - at - 1
		x := api.Ins{Op: every[next(len(every))]}
		if x.Op == api.RetA || x.Op == api.RetK {
			x.Op = every[next(len(every))]
		}
		reach := 4
		if next(9) == 0 {
			reach = mostJump + 1
		}
		jump := func() int { return next(min(behind, reach)) }
		switch {
		case behind == 0:
			x = api.Ins{Op: []int{api.RetA, api.RetK}[next(2)]}
		case among(x.Op, branchKs, branchXs):
			x.Jt, x.Jf = jump(), jump()
		case x.Op == api.Ja:
			x.K = uint32(jump())
		case x.Op == api.LdAbs:
			x.K = uint32(4 * next(16))
		case among(x.Op, cellOps):
			x.K = uint32(next(3) * next(8))
		case x.Op == api.LshK, x.Op == api.RshK:
			x.K = uint32(next(32))
		}
		if among(x.Op, free, branchKs) || among(x.Op, aluKs) && x.Op != api.LshK && x.Op != api.RshK {
			x.K = word32(next) | 1
		}
		f[at] = x
	}
	return f
}

// parse answers the filter of a text.
func parse(t *testing.T, s string) []api.Ins {
	t.Helper()
	f, line, e := codec.Parse(s)
	if e != api.OK {
		t.Fatalf("Parse(%q): line %d, %d", s, line, e)
	}
	return f
}

// P6.1, P6.2: the document's examples, and others of each way through a filter.
func TestExamples(t *testing.T) {
	d := api.Data{Nr: 5, Arch: 0xc000003e, Ip: 0x1122334455667788, Args: [6]uint64{9, 7<<32 | 6}}
	for _, c := range []struct {
		text   string
		result uint32
		count  int
	}{
		{"abs 0x0\njeq 0x5 0x1 0x0\nret 0x0\nret 0x7fff0000\n", 0x7fff0000, 3},
		{"abs 0x4\njeq 0x5 0x1 0x0\nret 0x0\nret 0x7fff0000\n", 0, 3},
		{"ld 0x6\ndivx\nret 0x7fff0000\n", 0, 2},
		{"ld 0x6\ndivx\nret 0x7fff0000\nreta\n", 0, 2},
		{"ld 0x6\nldx 0x3\ndivx\nreta\n", 2, 4},
		{"reta\n", 0, 1},
		{"ret 0xffffffff\n", 0xffffffff, 1},
		{"txa\nreta\n", 0, 2},
		{"mem 0xf\nreta\n", 0, 2},
		{"ld 0x7\nst 0xf\nld 0x0\nmem 0xf\nreta\n", 7, 5},
		{"ldx 0x7\nstx 0xf\nldx 0x0\nmemx 0xf\ntxa\nreta\n", 7, 6},
		{"ld 0x7\ntax\nld 0x0\ntxa\nreta\n", 7, 5},
		{"ld 0x1\nneg\nreta\n", 0xffffffff, 3},
		{"abs 0x8\nreta\n", 0x55667788, 2},
		{"abs 0xc\nreta\n", 0x11223344, 2},
		{"abs 0x18\ntax\nabs 0x1c\nsubx\nreta\n", 1, 5},
		{"ja 0x0\nret 0x1\nret 0x2\n", 1, 2},
		{"ja 0x1\nret 0x1\nret 0x2\n", 2, 2},
		{"ld 0x3\nja 0x1\nld 0x4\nreta\n", 3, 3},
		{"jeq 0x0 0x0 0x0\nret 0x1\n", 1, 2},
		{"jeq 0x0 0x1 0x0\nret 0x1\nret 0x2\n", 2, 2},
		{"jeq 0x1 0x1 0x0\nret 0x1\nret 0x2\n", 1, 2},
		{"jset 0xffffffff 0x0 0x1\nret 0x1\nret 0x2\n", 2, 2},
		{"jgex 0x1 0x0\nret 0x1\nret 0x2\n", 2, 2},
		{"jgtx 0x1 0x0\nret 0x1\nret 0x2\n", 1, 2},
		{"ret 0x5\ndivx\nret 0x6\n", 5, 1},
	} {
		f := parse(t, c.text)
		wantRun(t, f, d, c.result, c.count, api.OK)
		wantTrace(t, f, d)
	}
}

// P6.2: the document's example, for its record, those beside it, and records that differ elsewhere.
func TestExampleForAllRecords(t *testing.T) {
	f := parse(t, "abs 0x0\njeq 0x5 0x1 0x0\nret 0x0\nret 0x7fff0000\n")
	for seed := range 50 {
		d := someRecord(seed)
		for nr := range uint32(300) {
			d.Nr = nr
			want := uint32(kill)
			if nr == 5 {
				want = 0x7fff0000
			}
			wantRun(t, f, d, want, 3, api.OK)
		}
		for _, nr := range []uint32{0x105, 0x10005, 0x80000005, 0xfffffffb} {
			d.Nr = nr
			wantRun(t, f, d, kill, 3, api.OK)
		}
	}
}

// P6.2: the error, and a stopped run's result, are the document's numbers.
func TestErrorNumbers(t *testing.T) {
	if v, n, e := run.Run(nil, api.Data{}); v != 0 || n != 0 || int(e) != 1 {
		t.Errorf("Run(nil): %d, %d, %d", v, n, e)
	}
	if v, n, e := run.Run([]api.Ins{{Op: 0x3c}, {Op: 0x06, K: 9}}, api.Data{}); v != 0 || n != 1 || int(e) != 0 {
		t.Errorf("Run: %d, %d, %d", v, n, e)
	}
}

// P6.1: each instruction from states at the edges: operations of all numbers, with all pairs of edges as A and K, and as
// A and X.
func TestEveryStep(t *testing.T) {
	d := someRecord(1)
	s := someState(2)
	for op := range 256 {
		for i, a := range edges {
			for j, b := range edges {
				other := edges[(i+j)%len(edges)]
				s.A, s.X = a, other
				wantStep(t, s, api.Ins{Op: op, K: b}, d)
				s.A, s.X = a, b
				wantStep(t, s, api.Ins{Op: op, K: other}, d)
			}
		}
	}
}

// P6.1: each instruction from mixed states, for mixed records.
func TestMixedSteps(t *testing.T) {
	for seed := range 200 {
		next := numbers(seed)
		for _, op := range every {
			wantStep(t, someState(seed), api.Ins{Op: op, K: word32(next)}, someRecord(seed))
			wantStep(t, someState(seed), api.Ins{Op: op, K: uint32(next(70))}, someRecord(seed))
		}
	}
}

// P6.1: the arithmetic, one by one, and which operand it takes.
func TestArithmetic(t *testing.T) {
	s := api.State{A: 0x80000007, X: 5}
	for _, c := range []struct {
		x    api.Ins
		want uint32
	}{
		{api.Ins{Op: api.AddK, K: 0x80000000}, 7}, {api.Ins{Op: api.AddX}, 0x8000000c},
		{api.Ins{Op: api.SubK, K: 0x80000008}, 0xffffffff}, {api.Ins{Op: api.SubX}, 0x80000002},
		{api.Ins{Op: api.MulK, K: 2}, 14}, {api.Ins{Op: api.MulX}, 0x80000023},
		{api.Ins{Op: api.DivK, K: 2}, 0x40000003}, {api.Ins{Op: api.DivX}, 0x1999999b},
		{api.Ins{Op: api.OrK, K: 8}, 0x8000000f}, {api.Ins{Op: api.OrX}, 0x80000007},
		{api.Ins{Op: api.AndK, K: 12}, 4}, {api.Ins{Op: api.AndX}, 5},
		{api.Ins{Op: api.LshK, K: 1}, 14}, {api.Ins{Op: api.LshX}, 0xe0},
		{api.Ins{Op: api.RshK, K: 1}, 0x40000003}, {api.Ins{Op: api.RshX}, 0x4000000},
		{api.Ins{Op: api.XorK, K: 1}, 0x80000006}, {api.Ins{Op: api.XorX}, 0x80000002},
		{api.Ins{Op: api.Neg}, 0x7ffffff9},
		{api.Ins{Op: api.LshK, K: 33}, 14}, {api.Ins{Op: api.RshK, K: 32}, 0x80000007},
	} {
		want := s
		want.A = c.want
		if got, ok := run.Step(s, c.x, api.Data{}); got != want || !ok {
			t.Errorf("Step(%+v, %+v): %+v, %v; want %+v", s, c.x, got, ok, want)
		}
	}
}

// P6.1: a division by 0 answers the state as it was, and false; K and X are not taken for each other.
func TestDivisionByZero(t *testing.T) {
	for seed := range 50 {
		s := someState(seed)
		for _, c := range []struct {
			x    api.Ins
			regX uint32
			ok   bool
		}{
			{api.Ins{Op: api.DivK}, 0, false}, {api.Ins{Op: api.DivK}, 3, false}, {api.Ins{Op: api.DivK, K: 1}, 0, true},
			{api.Ins{Op: api.DivX}, 0, false}, {api.Ins{Op: api.DivX, K: 3}, 0, false}, {api.Ins{Op: api.DivX}, 1, true},
			{api.Ins{Op: api.DivK, Jt: 3, Jf: 4}, 1, false}, {api.Ins{Op: api.DivX, Jt: -1}, 0, false},
		} {
			s.X = c.regX
			if got, ok := run.Step(s, c.x, someRecord(seed)); got != s || ok != c.ok {
				t.Errorf("Step(%+v, %+v): %+v, %v", s, c.x, got, ok)
			}
		}
	}
}

// P6.1: a cell that does not exist is 0, and remains so; those that do are each their own.
func TestCells(t *testing.T) {
	for seed := range 20 {
		s := someState(seed)
		for _, k := range append([]uint32{0x100, 0x10000, 0x10000000, 0x7fffffff, 0x80000000, 0x80000001, 0xfffffff0, 0xffffffff}, small(300)...) {
			old := uint32(0)
			if k < cells {
				old = s.M[k]
			}
			wantState(t, s, api.Ins{Op: api.LdMem, K: k}, func(w *api.State) { w.A = old })
			wantState(t, s, api.Ins{Op: api.LdxMem, K: k}, func(w *api.State) { w.X = old })
			wantState(t, s, api.Ins{Op: api.St, K: k}, func(w *api.State) { put(w, k, s.A) })
			wantState(t, s, api.Ins{Op: api.Stx, K: k}, func(w *api.State) { put(w, k, s.X) })
		}
	}
}

func small(count int) []uint32 {
	out := make([]uint32, count)
	for i := range out {
		out[i] = uint32(i)
	}
	return out
}

func put(s *api.State, k, v uint32) {
	if k < cells {
		s.M[k] = v
	}
}

// wantState: an instruction makes of s what the change makes of it.
func wantState(t *testing.T, s api.State, x api.Ins, change func(w *api.State)) {
	t.Helper()
	want := s
	change(&want)
	if got, ok := run.Step(s, x, api.Data{}); got != want || !ok {
		t.Errorf("Step(%+v, %+v): %+v, %v; want %+v", s, x, got, ok, want)
	}
}

// P6.1: a load reads the word at each multiple of 4 below 64, and 0 where there is none.
func TestLoads(t *testing.T) {
	for seed := range 20 {
		s, d := someState(seed), someRecord(seed)
		record := machineOf(s, d).record
		for _, k := range append([]uint32{0x100, 0x104, 0x10000, 0x10004, 0x7ffffffc, 0x80000000, 0x80000004, 0xffffffc0, 0xfffffffc, 0xffffffff}, small(300)...) {
			want := s
			want.A = 0
			if k < dataLen && k%4 == 0 {
				want.A = uint32(record[k]) + uint32(record[k+1])<<8 + uint32(record[k+2])<<16 + uint32(record[k+3])<<24
			}
			if got, ok := run.Step(s, api.Ins{Op: api.LdAbs, K: k}, d); got != want || !ok {
				t.Errorf("Step(%+v, abs %#x, %+v): %+v, %v; want %+v", s, k, d, got, ok, want)
			}
		}
	}
}

// P6.1: ends, jumps, branches and what is no operation leave the state as it is.
func TestStepsThatLeaveTheState(t *testing.T) {
	for seed := range 30 {
		s, d := someState(seed), someRecord(seed)
		for _, op := range slices.Concat(noOps, branchKs, branchXs, []int{api.RetK, api.RetA, api.Ja}) {
			for _, k := range edges {
				for _, x := range []api.Ins{{Op: op, K: k}, {Op: op, Jt: 1, K: k}, {Op: op, Jf: -1, K: k}, {Op: op, Jt: math.MaxInt, Jf: math.MinInt, K: k}} {
					if got, ok := run.Step(s, x, d); got != s || !ok {
						t.Errorf("Step(%+v, %+v): %+v, %v", s, x, got, ok)
					}
				}
			}
		}
	}
}

// P6.1, P0 (R1): what an instruction does hangs on Op and K alone, also where it is not valid.
func TestInstructionsThatAreNotValid(t *testing.T) {
	jumps := []int{0, 1, 255, 256, -1, math.MinInt, math.MaxInt}
	for seed := range 10 {
		s, d := someState(seed), someRecord(seed)
		for _, op := range slices.Concat(every, noOps) {
			for _, k := range edges {
				for _, j := range jumps {
					wantStep(t, s, api.Ins{Op: op, Jt: j, K: k}, d)
					wantStep(t, s, api.Ins{Op: op, Jf: j, K: k}, d)
					wantStep(t, s, api.Ins{Op: op, Jt: j, Jf: -j, K: k}, d)
				}
			}
		}
	}
}

// P6.1: the conditions, one by one, of a number that is less, the same and greater, with and without a bit in common.
func TestTakes(t *testing.T) {
	for _, c := range []struct {
		a, b             uint32
		eq, gt, ge, jset bool
	}{
		{0, 0, true, false, true, false}, {1, 0, false, true, true, false}, {0, 1, false, false, false, false},
		{6, 6, true, false, true, true}, {6, 2, false, true, true, true}, {2, 6, false, false, false, true}, {6, 1, false, true, true, false}, {1, 6, false, false, false, false},
		{0xffffffff, 0, false, true, true, false}, {0, 0xffffffff, false, false, false, false}, {0x80000000, 0x7fffffff, false, true, true, false}, {0x7fffffff, 0x80000000, false, false, false, false},
		{0x80000000, 0x80000000, true, false, true, true}, {0xffffffff, 0x80000000, false, true, true, true}, {0x10005, 5, false, true, true, true}, {0x10000, 0, false, true, true, false},
	} {
		for i, want := range []bool{c.eq, c.gt, c.ge, c.jset} {
			// The other operand holds for itself what must not count.
			for _, other := range []uint32{c.a, ^c.a, 0, 0xffffffff, c.b} {
				if got := run.Takes(api.State{A: c.a, X: other}, api.Ins{Op: branchKs[i], K: c.b}); got != want {
					t.Errorf("Takes of %#x on K: A %#x, K %#x, X %#x: %v", branchKs[i], c.a, c.b, other, got)
				}
				if got := run.Takes(api.State{A: c.a, X: c.b}, api.Ins{Op: branchXs[i], K: other}); got != want {
					t.Errorf("Takes of %#x on X: A %#x, X %#x, K %#x: %v", branchXs[i], c.a, c.b, other, got)
				}
			}
		}
	}
}

// P6.1: each single bit in common is one.
func TestTakesByEachBit(t *testing.T) {
	for a := range 32 {
		for b := range 32 {
			s := api.State{A: 1 << a, X: 1 << b}
			if run.Takes(s, api.Ins{Op: api.JsetK, K: 1 << b}) != (a == b) || run.Takes(s, api.Ins{Op: api.JsetX}) != (a == b) {
				t.Errorf("jset of bits %d and %d", a, b)
			}
		}
	}
}

// P6.1: what is not a branch has no condition.
func TestTakesOfOthers(t *testing.T) {
	others := slices.Clone(noOps)
	for op := range 1 << 10 {
		if !among(op, branchKs, branchXs) {
			others = append(others, op)
		}
	}
	for _, op := range others {
		for _, v := range []uint32{0, 1, 6, 0xffffffff} {
			for _, x := range []api.Ins{{Op: op, K: v}, {Op: op, Jt: 1, Jf: 2, K: v}, {Op: op, K: v + 1}, {Op: op, K: v - 1}} {
				if run.Takes(api.State{A: v, X: v}, x) {
					t.Errorf("Takes(%#x, %+v)", v, x)
				}
			}
		}
	}
}

// P6.2: a filter that is not sound is not run, however far it would get.
func TestUnsound(t *testing.T) {
	end := api.Ins{Op: api.RetK, K: 7}
	for _, x := range []api.Ins{
		{Op: 8}, {Op: -1}, {Op: math.MaxInt}, {Op: api.RetK + 0x10000}, {Op: api.Tax, K: 1}, {Op: api.RetK, Jt: 1}, {Op: api.RetA, K: 1}, {Op: api.JeqK, Jt: 256}, {Op: api.JeqK, Jf: -1}, {Op: api.JeqX, K: 1},
		{Op: api.LdAbs, K: 2}, {Op: api.LdAbs, K: 64}, {Op: api.St, K: 16}, {Op: api.Stx, K: 16}, {Op: api.LdMem, K: 16}, {Op: api.LdxMem, K: math.MaxUint32}, {Op: api.DivK}, {Op: api.LshK, K: 32}, {Op: api.RshK, K: 33},
		{Op: api.Ja, K: 3}, {Op: api.Ja, K: math.MaxUint32}, {Op: api.JgtK, Jt: 3}, {Op: api.JsetX, Jf: 255}, {Op: api.JgeX, Jt: 3, Jf: 3},
	} {
		for _, f := range [][]api.Ins{{x}, {x, end}, {end, x, end}, {end, end, x}, {{Op: api.DivX}, x, end}, {{Op: api.Ja, K: 1}, x, end}} {
			wantRun(t, f, someRecord(1), 0, 0, api.ErrArg)
		}
	}
	wantRun(t, nil, someRecord(1), 0, 0, api.ErrArg)
	wantRun(t, []api.Ins{}, someRecord(1), 0, 0, api.ErrArg)
	wantRun(t, []api.Ins{{Op: api.Tax}}, someRecord(1), 0, 0, api.ErrArg)
	wantRun(t, []api.Ins{end, {Op: api.Tax}}, someRecord(1), 0, 0, api.ErrArg)
	wantRun(t, slices.Repeat([]api.Ins{end}, mostIns+1), someRecord(1), 0, 0, api.ErrArg)
	wantRun(t, []api.Ins{end, end}[:1], someRecord(1), 7, 1, api.OK)
}

// P6.2: a run starts with the zero state, whatever was run before.
func TestZeroState(t *testing.T) {
	var spoil []api.Ins
	for k := range uint32(cells) {
		spoil = append(spoil, api.Ins{Op: api.LdImm, K: 0xffffffff}, api.Ins{Op: api.LdxImm, K: 0xffffffff}, api.Ins{Op: api.St, K: k})
	}
	spoil = append(spoil, api.Ins{Op: api.RetA})
	wantRun(t, spoil, api.Data{}, 0xffffffff, len(spoil), api.OK)
	wantRun(t, parse(t, "reta\n"), someRecord(1), 0, 1, api.OK)
	wantRun(t, parse(t, "txa\nreta\n"), someRecord(1), 0, 2, api.OK)
	for k := range uint32(cells) {
		wantRun(t, []api.Ins{{Op: api.LdImm, K: 9}, {Op: api.LdMem, K: k}, {Op: api.RetA}}, someRecord(1), 0, 3, api.OK)
		wantRun(t, []api.Ins{{Op: api.LdxMem, K: k}, {Op: api.DivX}, {Op: api.RetK, K: 9}}, someRecord(1), 0, 2, api.OK)
	}
}

// P6.2: a run that stops has the result Kill, and counts what stopped it, whatever A was and whatever is behind it.
func TestStops(t *testing.T) {
	for before := range 40 {
		for _, behind := range []int{0, 1, 5} {
			f := slices.Repeat([]api.Ins{{Op: api.AddK, K: 3}}, before)
			f = append(f, api.Ins{Op: api.DivX})
			f = append(f, slices.Repeat([]api.Ins{{Op: api.LdImm, K: 4}}, behind)...)
			f = append(f, api.Ins{Op: api.RetK, K: 0x7fff0000})
			wantRun(t, f, someRecord(before), kill, before+1, api.OK)
			whole := append([]api.Ins{{Op: api.LdxImm, K: 1}}, f...)
			wantRun(t, whole, someRecord(before), 0x7fff0000, len(whole), api.OK)
		}
	}
}

// P6.2: branches and jumps of all lengths land where they must, and count what they pass once.
func TestJumps(t *testing.T) {
	const count = 300
	ends := make([]api.Ins, count)
	for i := range ends {
		ends[i] = api.Ins{Op: api.RetK, K: uint32(i)}
	}
	behind := func(x api.Ins) []api.Ins { return append([]api.Ins{x}, ends...) }
	for jump := range mostJump + 1 {
		for _, op := range branchKs[:3] {
			// A is 0: it is 0, and not greater than it.
			taken, other := uint32(jump), uint32(mostJump-jump)
			if op == api.JgtK {
				taken, other = other, taken
			}
			wantRun(t, behind(api.Ins{Op: op, Jt: jump, Jf: mostJump - jump}), api.Data{}, taken, 2, api.OK)
			wantRun(t, behind(api.Ins{Op: op + 8, Jt: mostJump - jump, Jf: jump}), api.Data{}, other, 2, api.OK)
		}
		wantRun(t, behind(api.Ins{Op: api.JsetK, Jt: jump, Jf: mostJump - jump, K: 0xffffffff}), api.Data{}, uint32(mostJump-jump), 2, api.OK)
		wantRun(t, behind(api.Ins{Op: api.JsetX, Jt: jump, Jf: mostJump - jump}), api.Data{}, uint32(mostJump-jump), 2, api.OK)
	}
	for k := range uint32(count) {
		wantRun(t, behind(api.Ins{Op: api.Ja, K: k}), api.Data{}, k, 2, api.OK)
	}
}

// P6.2, P6.3: the longest filter, passed whole, jumped over, and by steps of all lengths.
func TestLongestFilter(t *testing.T) {
	f := slices.Repeat([]api.Ins{{Op: api.AddK, K: 1}}, mostIns)
	f[mostIns-1] = api.Ins{Op: api.RetA}
	wantRun(t, f, someRecord(1), mostIns-1, mostIns, api.OK)
	f[0] = api.Ins{Op: api.Ja, K: mostIns - 2}
	wantRun(t, f, someRecord(1), 0, 2, api.OK)
	f[0] = api.Ins{Op: api.Ja, K: mostIns - 3}
	wantRun(t, f, someRecord(1), 1, 3, api.OK)
	for jump := range 40 {
		for i := range mostIns - 1 {
			f[i] = api.Ins{Op: api.JeqK, Jt: min(jump, mostIns-2-i)}
		}
		wantTrace(t, f, someRecord(1))
	}
	for seed := range 10 {
		wantTrace(t, mixed(mostIns, seed), someRecord(seed))
	}
}

// P6.2, P6.3: mixed filters, for mixed records; of runs there are such as stop, and such as end each way.
func TestMixedFilters(t *testing.T) {
	stops, ends, longest := 0, map[int]int{}, 0
	for seed := range 1500 {
		f := mixed(1+seed%60, seed)
		for r := range 6 {
			got := wantTrace(t, f, someRecord(7*seed+r))
			last := got.path[len(got.path)-1]
			ends[f[last].Op]++
			if got.stops {
				stops++
			}
			longest = max(longest, len(got.path))
		}
	}
	if stops == 0 || ends[api.RetA] == 0 || ends[api.RetK] == 0 || longest < 15 {
		t.Errorf("stops %d, ends %v, longest %d", stops, ends, longest)
	}
}

// P6.2, P6.3: all filters of up to four instructions out of some of each kind.
func TestAllShortFilters(t *testing.T) {
	parts := []api.Ins{
		{Op: api.RetA}, {Op: api.RetK, K: 5}, {Op: api.LdImm, K: 6}, {Op: api.LdxImm, K: 6}, {Op: api.Tax}, {Op: api.Txa}, {Op: api.Neg}, {Op: api.LdAbs, K: 4}, {Op: api.LdAbs, K: 64},
		{Op: api.St, K: 1}, {Op: api.LdxMem, K: 1}, {Op: api.AddX}, {Op: api.DivX}, {Op: api.SubK, K: 7}, {Op: api.Ja}, {Op: api.Ja, K: 1}, {Op: api.JeqK, K: 6, Jt: 1}, {Op: api.JgtX, Jf: 1}, {Op: api.JsetK, K: 3, Jt: 1}, {Op: api.JgeX, Jt: 2, Jf: 1},
	}
	d := someRecord(3)
	wantTrace(t, nil, d)
	for _, w := range parts {
		wantTrace(t, []api.Ins{w}, d)
		for _, x := range parts {
			wantTrace(t, []api.Ins{w, x}, d)
			for _, y := range parts {
				wantTrace(t, []api.Ins{w, x, y}, d)
				for _, z := range parts[:2] {
					wantTrace(t, []api.Ins{w, x, y, z}, d)
				}
			}
		}
	}
}

// P6.3: a run passes no instruction twice: in a chain of jumps it counts each that it passes, and no other.
func TestEachOnce(t *testing.T) {
	for step := range 30 {
		var f []api.Ins
		for range 20 {
			f = append(f, api.Ins{Op: api.Ja, K: uint32(step)})
			f = append(f, slices.Repeat([]api.Ins{{Op: api.RetK, K: 99}}, step)...)
		}
		f = append(f, api.Ins{Op: api.RetA})
		wantRun(t, f, someRecord(step), 0, 21, api.OK)
	}
}

// withWord answers a record with another word at a position, in another way than the program.
func withWord(d api.Data, at, v uint32) api.Data {
	set := func(n *uint64, high bool) {
		if high {
			*n = *n&0xffffffff | uint64(v)<<32
		} else {
			*n = *n&^0xffffffff | uint64(v)
		}
	}
	switch {
	case at == 0:
		d.Nr = v
	case at == 4:
		d.Arch = v
	case at < 16:
		set(&d.Ip, at == 12)
	default:
		set(&d.Args[(at-16)/8], at%8 == 4)
	}
	return d
}

// P6.4: a run's result does not change with the words that it does not load, and does with those that it answers.
func TestOnlyLoadedWordsCount(t *testing.T) {
	for seed := range 300 {
		f := mixed(2+seed%40, seed)
		d := someRecord(seed)
		was := wantTrace(t, f, d)
		other := d
		for at := uint32(0); at < dataLen; at += 4 {
			if was.loads[at] > 0 {
				continue
			}
			other = withWord(other, at, edges[int(at)%len(edges)]^0x5a5a5a5a)
			wantRun(t, f, withWord(d, at, 0xdeadbeef), was.result, len(was.path), api.OK)
		}
		wantRun(t, f, other, was.result, len(was.path), api.OK)
	}
	for at := uint32(0); at < dataLen; at += 4 {
		f := []api.Ins{{Op: api.LdAbs, K: at}, {Op: api.RetA}}
		for _, v := range edges {
			wantRun(t, f, withWord(someRecord(int(at)), at, v), v, 2, api.OK)
		}
	}
}

// lastReached answers the greatest index that a run may get to, by whatever way.
func lastReached(f []api.Ins) int {
	reached := make([]bool, len(f))
	reached[0] = true
	last := 0
	for at := range f {
		if !reached[at] {
			continue
		}
		last = at
		for _, to := range check.Next(f, at) {
			reached[to] = true
		}
	}
	return last
}

// P6.5: what is behind the last instruction that can be reached makes no difference, nor does there being none.
func TestBehindTheLastReached(t *testing.T) {
	cut := 0
	for seed := range 200 {
		f := mixed(1+seed%30, seed)
		whole := append(slices.Clone(f), mixed(1+seed%9, seed+1)...)
		last := lastReached(whole)
		for r := range 4 {
			d := someRecord(5*seed + r)
			was := wantTrace(t, f, d)
			wantRun(t, whole, d, was.result, len(was.path), api.OK)
			changed := append(slices.Clone(whole[:last+1]), slices.Repeat([]api.Ins{{Op: api.RetK, K: 0xbad}}, len(whole)-last-1)...)
			wantRun(t, changed, d, was.result, len(was.path), api.OK)
			if check.Sound(whole[:last+1]) {
				wantRun(t, whole[:last+1], d, was.result, len(was.path), api.OK)
				cut++
			}
		}
	}
	if cut == 0 {
		t.Error("no filter was cut")
	}
}

// P0 (R3): arguments are left as they are, with the memory behind them.
func TestArgumentsAreLeft(t *testing.T) {
	for seed := range 50 {
		f := mixed(60, seed)
		before := slices.Clone(f)
		d, s := someRecord(seed), someState(seed)
		wasD, wasS := d, s
		run.Run(f, d)
		run.Run(f[:30], d)
		for _, x := range f {
			run.Step(s, x, d)
			run.Takes(s, x)
		}
		if !slices.Equal(f, before) || d != wasD || s != wasS {
			t.Fatalf("seed %d: %+v, before %+v", seed, f, before)
		}
	}
}

// P0 (R3): nothing of a filter is kept: one that is changed is run as it is then.
func TestNothingIsKept(t *testing.T) {
	f := parse(t, "ld 0x5\nreta\n")
	for v := range uint32(20) {
		f[0].K = v
		wantRun(t, f, api.Data{}, v, 2, api.OK)
	}
	f[0] = api.Ins{Op: 8}
	wantRun(t, f, api.Data{}, 0, 0, api.ErrArg)
	f[0] = api.Ins{Op: api.RetK, K: 3}
	wantRun(t, f, api.Data{}, 3, 1, api.OK)
}

// P0 (R4): a call's result does not hang on the calls before it.
func TestCallsAreRepeatable(t *testing.T) {
	type answer struct {
		result uint32
		count  int
		errno  api.Errno
		step   api.State
		ok     bool
	}
	var first []answer
	for round := range 3 {
		for seed := range 200 {
			f := mixed(30, seed)
			if seed%5 == 0 {
				f[seed%30].K = 0xffffffff
			}
			var a answer
			a.result, a.count, a.errno = run.Run(f, someRecord(seed))
			a.step, a.ok = run.Step(someState(seed), f[seed%30], someRecord(seed))
			if round == 0 {
				first = append(first, a)
			} else if a != first[seed] {
				t.Fatalf("seed %d: %+v, before %+v", seed, a, first[seed])
			}
		}
	}
}

// readFilter makes a filter, valid or not, of any bytes.
func readFilter(b []byte) []api.Ins {
	var f []api.Ins
	for len(b) >= 8 {
		f = append(f, api.Ins{Op: int(b[0]) - int(b[1]), Jt: int(b[2]), Jf: int(b[3]), K: binary.LittleEndian.Uint32(b[4:])})
		b = b[8:]
	}
	return f
}

// FuzzRun holds all calls against the tests' own reading of the document, on any filters.
func FuzzRun(f *testing.F) {
	for seed := range 40 {
		b, _ := codec.Encode(mixed(1+seed%12, seed))
		f.Add(b, seed)
	}
	f.Add([]byte{}, 0)
	f.Fuzz(func(t *testing.T, b []byte, seed int) {
		if len(b) > 8*200 {
			return
		}
		filter := readFilter(b)
		wantTrace(t, filter, someRecord(seed))
		s := someState(seed)
		for _, x := range filter {
			wantStep(t, s, x, someRecord(seed))
			s, _ = run.Step(s, x, someRecord(seed))
		}
	})
}
