package sym_test

import (
	"math"
	"testing"

	"hurdle/affine"
	"hurdle/api"
	"hurdle/bits"
	"hurdle/sym"
)

const (
	vars = 34
	most = 4
	full = 0xffffffff

	// What a node is beside arithmetic.
	constant = -1
	variable = -2
	negation = -3
)

type assignment = [vars]uint32

var (
	kinds = []int{api.AddK, api.SubK, api.MulK, api.DivK, api.OrK, api.AndK, api.LshK, api.RshK, api.XorK}

	// edges are numbers at which arithmetic may go wrong, shifts among them, and some plain ones between.
	edges = []uint32{
		0, 1, 2, 3, 5, 8, 30, 31, 32, 33, 64, 255, 256, 0x7fff, 0xffff, 0x10000, 0x12345678, 0x55555555, 0x7ffffffe,
		0x7fffffff, 0x80000000, 0x80000001, 0xaaaaaaaa, 0xdeadbeef, 0xffffff00, 0xfffffffe, 0xffffffff,
	}

	// flips are the numbers whose exclusive or with a variable is a sum.
	flips = []uint32{0, 0x7fffffff, 0x80000000, 0xffffffff}

	// noNumbers are such as no variable has, and no value; most would be one's if they were cut to fewer bits.
	noNumbers = []int{
		-1, -2, -33, -34, -35, -256, -255, 34, 35, 36, 63, 64, 65, 127, 128, 255, 256, 257, 289, 0x10000, 0x10021, -0x10000, 1 << 31, 1<<31 + 33,
		math.MinInt32, math.MinInt32 + 1, math.MaxInt32, 1 << 32, 1<<32 + 1, 1<<32 + 33, -1 << 32, -1<<32 + 5, math.MinInt, math.MinInt + 1, math.MinInt + 33, math.MaxInt - 1, math.MaxInt,
	}
)

// numbers answers numbers that look mixed, the same for each seed.
func numbers(seed int) func() uint32 {
	n := uint64(seed)*2 + 1
	return func() uint32 {
		n = n*6364136223846793005 + 1442695040888963407
		return uint32(n >> 32)
	}
}

// node tells how a value was made; its operands are earlier nodes.
type node struct {
	kind, i, x, y int
	c             uint32
}

// shelf is a book, beside how each of its values was made. A value that was made again has a node again.
type shelf struct {
	t       *testing.T
	book    *sym.Book
	nodes   []node
	numbers []int
}

func newShelf(t *testing.T) *shelf {
	return &shelf{t: t, book: sym.New()}
}

// put makes a value and holds its number against those before it: it is the next one, or one that there was.
func (s *shelf) put(n node) int {
	s.t.Helper()
	before := s.book.Len()
	number := s.made(n)
	after := s.book.Len()
	if number < 0 || number >= after || after < before || number >= before && number != after-1 {
		s.t.Fatalf("%+v: number %d; there were %d values, and are %d", n, number, before, after)
	}
	s.nodes = append(s.nodes, n)
	s.numbers = append(s.numbers, number)
	if again := s.made(n); again != number || s.book.Len() != after {
		s.t.Fatalf("%+v: number %d, and then %d", n, number, again)
	}
	return len(s.nodes) - 1
}

func (s *shelf) made(n node) int {
	switch n.kind {
	case constant:
		return s.book.Const(n.c)
	case variable:
		return s.book.Var(n.i)
	case negation:
		return s.book.Neg(s.numbers[n.x])
	}
	return s.book.Alu(n.kind, s.numbers[n.x], s.numbers[n.y])
}

func (s *shelf) number(c uint32) int {
	s.t.Helper()
	return s.put(node{kind: constant, c: c})
}

func (s *shelf) variable(i int) int {
	s.t.Helper()
	return s.put(node{kind: variable, i: i})
}

func (s *shelf) alu(kind, x, y int) int {
	s.t.Helper()
	return s.put(node{kind: kind, x: x, y: y})
}

func (s *shelf) neg(x int) int {
	s.t.Helper()
	return s.put(node{kind: negation, x: x})
}

// with is arithmetic whose second operand is a constant.
func (s *shelf) with(kind, x int, c uint32) int {
	s.t.Helper()
	return s.alu(kind, x, s.number(c))
}

// same: have two nodes one number?
func (s *shelf) same(x, y int) bool {
	return s.numbers[x] == s.numbers[y]
}

func (s *shelf) wantSame(what string, x, y int) {
	s.t.Helper()
	if !s.same(x, y) {
		s.t.Errorf("%s: numbers %d and %d", what, s.numbers[x], s.numbers[y])
	}
}

func (s *shelf) wantUnlike(what string, x, y int) {
	s.t.Helper()
	if s.same(x, y) {
		s.t.Errorf("%s: number %d for both", what, s.numbers[x])
	}
}

// outcome is a result, or that there is none.
type outcome struct {
	n  uint32
	is bool
}

// outcomes works out what all nodes are for an assignment, from the first one on.
func (s *shelf) outcomes(v assignment) []outcome {
	var out []outcome
	for _, n := range s.nodes {
		switch n.kind {
		case constant:
			out = append(out, outcome{n.c, true})
		case variable:
			out = append(out, outcome{v[n.i], true})
		case negation:
			out = append(out, arithmetic(api.SubK, outcome{0, true}, out[n.x]))
		default:
			out = append(out, arithmetic(n.kind, out[n.x], out[n.y]))
		}
	}
	return out
}

// arithmetic works in 64 bits, and cuts what comes of it to 32.
func arithmetic(kind int, x, y outcome) outcome {
	if !x.is || !y.is || kind == api.DivK && y.n == 0 {
		return outcome{}
	}
	a, b := uint64(x.n), uint64(y.n)
	n := uint64(0)
	switch kind {
	case api.AddK:
		n = a + b
	case api.SubK:
		n = a + 1<<32 - b
	case api.MulK:
		n = a * b
	case api.DivK:
		n = a / b
	case api.OrK:
		n = a | b
	case api.AndK:
		n = a & b
	case api.LshK:
		n = a << (b % 32)
	case api.RshK:
		n = a >> (b % 32)
	case api.XorK:
		n = a ^ b
	}
	return outcome{uint32(n % (1 << 32)), true}
}

// sums tells of each node whether it is a sum, as it was made.
func (s *shelf) sums() []bool {
	var out []bool
	for _, n := range s.nodes {
		switch n.kind {
		case constant, variable:
			out = append(out, true)
		case negation:
			out = append(out, out[n.x])
		case api.AddK, api.SubK:
			out = append(out, out[n.x] && out[n.y])
		case api.MulK, api.LshK:
			out = append(out, out[n.x] && s.nodes[n.y].kind == constant)
		default:
			out = append(out, false)
		}
	}
	return out
}

// bitwise tells of each node whether it is a bitwise value, as it was made.
func (s *shelf) bitwise() []bool {
	var out []bool
	var occur [][vars]bool
	for _, n := range s.nodes {
		is, occurs := false, [vars]bool{}
		switch n.kind {
		case constant:
			is = true
		case variable:
			is, occurs[n.i] = true, true
		case api.OrK, api.AndK, api.XorK:
			is = out[n.x] && out[n.y]
			for i := range vars {
				occurs[i] = occur[n.x][i] || occur[n.y][i]
			}
		}
		count := 0
		for _, o := range occurs {
			if o {
				count++
			}
		}
		out, occur = append(out, is && count <= most), append(occur, occurs)
	}
	return out
}

// one answers the assignment in which a variable is n, and all others are 0.
func one(i int, n uint32) assignment {
	v := assignment{}
	v[i] = n
	return v
}

// units are the assignments that tell all sums from each other: a sum is a constant, and so much more for each variable.
func units() []assignment {
	out := []assignment{{}}
	for i := range vars {
		out = append(out, one(i, 1))
	}
	return out
}

// corners are the assignments that tell all bitwise values of the variables of list from each other: each of these is all
// ones or 0.
func corners(list []int) []assignment {
	out := []assignment{{}}
	for _, i := range list {
		for _, v := range out {
			v[i] = full
			out = append(out, v)
		}
	}
	return out
}

// mixed are assignments with edges and mixed numbers, and some in which few variables are not 0.
func mixed(seed, count int) []assignment {
	next := numbers(seed)
	out := []assignment{{}}
	for k := range count {
		v := assignment{}
		for i := range v {
			switch n := next(); {
			case k%3 == 0:
				v[i] = n
			case k%3 == 1 || n>>8%4 == 0:
				v[i] = edges[int(next()>>8)%len(edges)]
			}
		}
		out = append(out, v)
	}
	return out
}

// meanings answers for each node its outcomes for all of some assignments.
func (s *shelf) meanings(list []assignment) [][]outcome {
	out := make([][]outcome, len(s.nodes))
	for _, v := range list {
		for k, o := range s.outcomes(v) {
			out[k] = append(out[k], o)
		}
	}
	return out
}

// grown answers a shelf with so many nodes, of these variables and kinds (negation may be one).
func grown(t *testing.T, seed, count int, list, kinds []int) *shelf {
	t.Helper()
	s := newShelf(t)
	next := numbers(seed)
	below := func(n int) int { return int(next()>>8) % n }
	for _, i := range list {
		s.variable(i)
	}
	for len(s.nodes) < count {
		switch k := below(len(kinds) + 2); {
		case k == len(kinds):
			s.number(edges[below(len(edges))])
		case k > len(kinds):
			s.with(kinds[below(len(kinds))], below(len(s.nodes)), edges[below(len(edges))])
		default:
			// Half of the operands are late ones: so values grow deep.
			x, y := below(len(s.nodes)), below(len(s.nodes))
			if below(2) == 0 {
				x = len(s.nodes) - 1 - below(min(8, len(s.nodes)))
			}
			s.put(node{kind: kinds[k], x: x, y: y})
		}
	}
	return s
}

// The kinds of which sums are made, and bitwise values.
func sumKinds() []int {
	return []int{api.AddK, api.SubK, negation, api.MulK, api.LshK, api.AddK, api.SubK}
}

func bitKinds() []int {
	return []int{api.OrK, api.AndK, api.XorK}
}

func allKinds() []int {
	return append([]int{negation}, kinds...)
}

// shelves are such of sums, of bitwise values, of both, and of all kinds.
func shelves(t *testing.T) []*shelf {
	t.Helper()
	var out []*shelf
	for seed := range 12 {
		out = append(out,
			grown(t, seed, 90, []int{0, 1, 2, 33}, sumKinds()),
			grown(t, seed+100, 90, []int{0, 1, 17, 18}, bitKinds()),
			grown(t, seed+200, 90, []int{0, 1, 2, 16, 32, 33}, bitKinds()),
			grown(t, seed+300, 90, []int{0, 5}, append(sumKinds(), bitKinds()...)),
			grown(t, seed+400, 90, []int{0, 1, 18}, allKinds()),
		)
	}
	return out
}

func (s *shelf) wantEval(x int, v assignment, want outcome) {
	s.t.Helper()
	if n, ok := s.book.Eval(s.numbers[x], v); n != want.n || ok != want.is {
		s.t.Errorf("Eval of node %d, %+v, for %v: %#x, %v; want %#x, %v", x, s.nodes[x], v, n, ok, want.n, want.is)
	}
}

// The variables are affine's, and at most four occur in a bitwise value.
func TestNumbers(t *testing.T) {
	if affine.Vars != vars || bits.Most != most {
		t.Errorf("Vars: %d; Most: %d", affine.Vars, bits.Most)
	}
}

// The examples of the chapter.
func TestExamples(t *testing.T) {
	s := newShelf(t)
	a, x := s.variable(0), s.variable(1)
	s.wantSame("A + X - A", s.alu(api.SubK, s.alu(api.AddK, a, x), a), x)
	low, high := s.with(api.AndK, a, 0xff), s.with(api.AndK, a, 0xffffff00)
	s.wantSame("A in two pieces", s.alu(api.OrK, low, high), a)
	s.wantSame("not A", s.with(api.XorK, a, full), s.alu(api.SubK, s.number(full), a))
}

// P16.1: numbers count from 0 on, in the order in which values are made; what is made again has the number that it has.
func TestOrder(t *testing.T) {
	b := sym.New()
	if b == nil || b.Len() != 0 {
		t.Fatalf("New: %v", b)
	}
	for i := range vars {
		if n := b.Var(i); n != i {
			t.Errorf("Var(%d): %d", i, n)
		}
	}
	for k, c := range edges {
		if n := b.Const(c); n != vars+k || b.Len() != vars+k+1 {
			t.Errorf("Const(%#x): %d of %d", c, n, b.Len())
		}
	}
	for i := range vars {
		if n := b.Var(i); n != i {
			t.Errorf("Var(%d), again: %d", i, n)
		}
	}
	for k, c := range edges {
		if n := b.Const(c); n != vars+k {
			t.Errorf("Const(%#x), again: %d", c, n)
		}
	}
	// What is neither a sum nor bitwise has a number as well.
	if n, m := b.Alu(api.MulK, 0, 1), b.Alu(api.DivK, 0, 1); n != vars+len(edges) || m != n+1 || b.Len() != m+1 {
		t.Errorf("MulK and DivK: %d and %d of %d", n, m, b.Len())
	}
}

// P16.1, P16.2: constants and variables are what they are for each assignment, and no two are the same.
func TestLeaves(t *testing.T) {
	s := newShelf(t)
	for i := range vars {
		s.variable(i)
	}
	for _, c := range edges {
		s.number(c)
	}
	for _, v := range append(units(), mixed(1, 30)...) {
		for x, want := range s.outcomes(v) {
			s.wantEval(x, v, want)
		}
	}
	for x := range s.nodes {
		for y := range x {
			s.wantUnlike("leaves", x, y)
		}
	}
}

// P16.1, P0 (R1): there are no other variables; what is refused makes no value.
func TestNoVar(t *testing.T) {
	b := sym.New()
	for _, i := range noNumbers {
		if n := b.Var(i); n != -1 || b.Len() != 0 {
			t.Errorf("Var(%d): %d of %d", i, n, b.Len())
		}
	}
	for i := range 5000 {
		if b.Var(-1-i) != -1 || b.Var(vars+i) != -1 || b.Len() != 0 {
			t.Errorf("Var(%d) or Var(%d)", -1-i, vars+i)
		}
	}
}

// P16.1: what is no kind of arithmetic makes no value.
func TestKinds(t *testing.T) {
	isKind := map[int]bool{}
	for _, kind := range kinds {
		isKind[kind] = true
	}
	b := sym.New()
	a, x := b.Var(0), b.Var(1)
	refused := func(kind int) {
		before := b.Len()
		if n := b.Alu(kind, a, x); n != -1 || b.Len() != before {
			t.Errorf("Alu(%d): %d of %d", kind, n, b.Len())
		}
		if n := b.Alu(kind, a, a); n != -1 || b.Len() != before {
			t.Errorf("Alu(%d), of one value: %d of %d", kind, n, b.Len())
		}
	}
	for kind := -600; kind <= 600; kind++ {
		if !isKind[kind] {
			refused(kind)
		} else if n := b.Alu(kind, a, x); n != b.Len()-1 {
			t.Errorf("Alu(%d): %d of %d", kind, n, b.Len())
		}
	}
	for _, n := range noNumbers {
		for _, kind := range kinds {
			if far := n&^0xff | kind; !isKind[far] {
				refused(far)
			}
		}
	}
}

// P16.1, P0 (R1): of a value that doesn't exist, none is made, and it has no result.
func TestNoSuchValue(t *testing.T) {
	b := sym.New()
	a := b.Alu(api.DivK, b.Var(0), b.Var(1))
	there := b.Len()
	for _, n := range append([]int{there, there + 1}, noNumbers...) {
		if b.Neg(n) != -1 {
			t.Errorf("Neg(%d)", n)
		}
		for _, kind := range kinds {
			if b.Alu(kind, n, a) != -1 || b.Alu(kind, a, n) != -1 || b.Alu(kind, n, n) != -1 {
				t.Errorf("Alu(%#x) with %d", kind, n)
			}
		}
		if r, ok := b.Eval(n, one(1, 1)); r != 0 || ok {
			t.Errorf("Eval(%d): %d, %v", n, r, ok)
		}
		if r, ok := b.Constant(n); r != 0 || ok {
			t.Errorf("Constant(%d): %d, %v", n, r, ok)
		}
		for _, other := range []int{0, a, n, -1} {
			if v, ok := b.Apart(n, other); ok || v != (assignment{}) {
				t.Errorf("Apart(%d, %d): %v, %v", n, other, v, ok)
			}
			if v, ok := b.Apart(other, n); ok || v != (assignment{}) {
				t.Errorf("Apart(%d, %d): %v, %v", other, n, v, ok)
			}
		}
		if b.Len() != there {
			t.Fatalf("%d: %d values", n, b.Len())
		}
	}
}

// P16.1, P0 (R1): nothing is in an empty book, nor in none.
func TestNilBook(t *testing.T) {
	for _, b := range []*sym.Book{nil, sym.New()} {
		for _, n := range append([]int{0, 1}, noNumbers...) {
			if b.Neg(n) != -1 || b.Alu(api.AddK, n, n) != -1 || b.Alu(api.MulK, n, 0) != -1 || b.Alu(99, n, n) != -1 {
				t.Errorf("%d makes a value", n)
			}
			if r, ok := b.Eval(n, assignment{1}); r != 0 || ok {
				t.Errorf("Eval(%d): %d, %v", n, r, ok)
			}
			if r, ok := b.Constant(n); r != 0 || ok {
				t.Errorf("Constant(%d): %d, %v", n, r, ok)
			}
			if v, ok := b.Apart(n, n+1); ok || v != (assignment{}) {
				t.Errorf("Apart(%d): %v, %v", n, v, ok)
			}
		}
		if b.Len() != 0 {
			t.Errorf("Len: %d", b.Len())
		}
	}
	var b *sym.Book
	for _, i := range append([]int{0, 1, 33}, noNumbers...) {
		if b.Var(i) != -1 || b.Const(uint32(i)) != -1 {
			t.Errorf("a nil book has %d", i)
		}
	}
}

// P16.1: the order of the operands counts only where it may.
func TestCommutes(t *testing.T) {
	for _, s := range shelves(t) {
		count := len(s.nodes)
		for x := range min(count, 24) {
			for y := range x {
				for _, kind := range []int{api.AddK, api.MulK, api.OrK, api.AndK, api.XorK} {
					s.wantSame("both orders", s.alu(kind, count-1-x, count-1-y), s.alu(kind, count-1-y, count-1-x))
				}
			}
		}
	}
	s := newShelf(t)
	a, x := s.variable(0), s.variable(1)
	for _, kind := range []int{api.SubK, api.DivK, api.LshK, api.RshK} {
		s.wantUnlike("both orders", s.alu(kind, a, x), s.alu(kind, x, a))
	}
}

// P16.1, P16.2: whatever is made, its result is that of how it was made.
func TestEval(t *testing.T) {
	for seed, s := range shelves(t) {
		for _, v := range mixed(seed, 24) {
			for x, want := range s.outcomes(v) {
				s.wantEval(x, v, want)
			}
		}
	}
}

// P16.2: what has one number has one meaning, whether there is a result or none.
func TestSound(t *testing.T) {
	for seed, s := range shelves(t) {
		meanings := s.meanings(mixed(seed+50, 60))
		first := map[int]int{}
		for x, number := range s.numbers {
			y, ok := first[number]
			if !ok {
				first[number] = x
				continue
			}
			for k, o := range meanings[x] {
				if o != meanings[y][k] {
					t.Fatalf("nodes %+v and %+v have the number %d, and the results %v and %v", s.nodes[x], s.nodes[y], number, o, meanings[y][k])
				}
			}
		}
	}
}

// alike: are all outcomes of two nodes the same?
func alike(a, b []outcome) bool {
	for k, o := range a {
		if o != b[k] {
			return false
		}
	}
	return true
}

// wantExact: nodes of a kind have one number just if they are alike; and Apart tells all others apart.
func (s *shelf) wantExact(is []bool, meanings [][]outcome) int {
	s.t.Helper()
	count := 0
	for x := range s.nodes {
		for y := range s.nodes {
			if !is[x] || !is[y] {
				continue
			}
			count++
			same := alike(meanings[x], meanings[y])
			if s.same(x, y) != same {
				s.t.Fatalf("nodes %+v and %+v: numbers %d and %d", s.nodes[x], s.nodes[y], s.numbers[x], s.numbers[y])
			}
			v, ok := s.book.Apart(s.numbers[x], s.numbers[y])
			if ok == same || same && v != (assignment{}) {
				s.t.Fatalf("Apart of %+v and %+v: %v, %v", s.nodes[x], s.nodes[y], v, ok)
			}
			if out := s.outcomes(v); !same && out[x] == out[y] {
				s.t.Fatalf("Apart of %+v and %+v: both are %v for %v", s.nodes[x], s.nodes[y], out[x], v)
			}
		}
	}
	return count
}

// P16.3: sums.
func TestExactSums(t *testing.T) {
	for seed := range 10 {
		s := grown(t, seed, 120, []int{0, 1, 2, 17, 33}, sumKinds())
		if s.wantExact(s.sums(), s.meanings(units())) < 1000 {
			t.Errorf("seed %d: few sums", seed)
		}
	}
}

// P16.3: bitwise values, also such as share less than all their variables.
func TestExactBitwise(t *testing.T) {
	for seed := range 6 {
		for _, list := range [][]int{{0}, {0, 33}, {0, 1, 2, 3}, {0, 1, 16, 17, 18, 33}} {
			s := grown(t, seed, 100, list, bitKinds())
			if s.wantExact(s.bitwise(), s.meanings(corners(list))) < 1000 {
				t.Errorf("seed %d, variables %v: few bitwise values", seed, list)
			}
		}
	}
}

// P16.3: sums and bitwise values side by side, in one book.
func TestExactBoth(t *testing.T) {
	for seed := range 10 {
		list := []int{0, 1}
		s := grown(t, seed, 120, list, append(sumKinds(), bitKinds()...))
		for _, c := range append(flips, 1) {
			a := s.variable(0)
			s.with(api.XorK, a, c)
			s.with(api.AddK, a, c)
			s.alu(api.SubK, s.number(c), a)
		}
		s.wantExact(s.sums(), s.meanings(units()))
		s.wantExact(s.bitwise(), s.meanings(corners(list)))
	}
}

// P16.3: sums written out, by each way to make them.
func TestSums(t *testing.T) {
	s := newShelf(t)
	a, x, m, w := s.variable(0), s.variable(1), s.variable(2), s.variable(33)
	twice := s.alu(api.AddK, a, a)
	s.wantSame("A + A", twice, s.with(api.MulK, a, 2))
	s.wantSame("A + A", twice, s.with(api.LshK, a, 1))
	s.wantSame("A + A", twice, s.with(api.LshK, a, 33))
	s.wantSame("A + A", twice, s.alu(api.MulK, s.number(2), a))
	s.wantSame("A + A", twice, s.alu(api.SubK, a, s.neg(a)))
	s.wantUnlike("A + A", twice, s.alu(api.LshK, s.number(2), a))
	s.wantUnlike("A + A", twice, s.with(api.LshK, a, 2))
	s.wantSame("-A", s.neg(a), s.with(api.MulK, a, full))
	s.wantSame("-A", s.neg(a), s.alu(api.SubK, s.number(0), a))
	s.wantSame("A", a, s.neg(s.neg(a)))
	s.wantSame("A", a, s.with(api.LshK, a, 32))
	s.wantSame("0", s.with(api.MulK, a, 0), s.number(0))
	s.wantSame("0", s.with(api.LshK, s.with(api.LshK, a, 31), 1), s.number(0))
	s.wantUnlike("A * X", s.alu(api.MulK, a, x), s.with(api.MulK, a, 1))
	all := s.alu(api.AddK, s.alu(api.AddK, a, x), s.alu(api.AddK, m, w))
	s.wantSame("all", all, s.alu(api.AddK, w, s.alu(api.AddK, m, s.alu(api.AddK, x, a))))
	s.wantSame("X", x, s.alu(api.SubK, s.alu(api.SubK, s.alu(api.SubK, all, w), m), a))
	s.wantUnlike("steps", s.with(api.AddK, s.with(api.AddK, a, 1), 2), s.with(api.AddK, a, 2))
	s.wantSame("steps", s.with(api.AddK, s.with(api.AddK, a, 1), 2), s.with(api.AddK, a, 3))
	s.wantSame("back", s.with(api.SubK, s.with(api.AddK, a, 0x80000001), 0x80000001), a)
}

// P16.3: bitwise values written out; of four variables, and with those that don't matter.
func TestBitwise(t *testing.T) {
	s := newShelf(t)
	a, x, m, w := s.variable(0), s.variable(1), s.variable(2), s.variable(33)
	not := func(n int) int { return s.with(api.XorK, n, full) }
	s.wantSame("A", s.alu(api.AndK, a, s.alu(api.OrK, a, x)), a)
	s.wantSame("A", s.alu(api.OrK, a, s.alu(api.AndK, a, x)), a)
	s.wantSame("A", s.alu(api.XorK, s.alu(api.XorK, a, x), x), a)
	s.wantSame("0", s.alu(api.AndK, a, not(a)), s.number(0))
	s.wantSame("0", s.alu(api.XorK, s.alu(api.OrK, a, x), s.alu(api.OrK, x, a)), s.number(0))
	s.wantSame("ones", s.alu(api.OrK, a, not(a)), s.number(full))
	s.wantSame("De Morgan", not(s.alu(api.AndK, a, x)), s.alu(api.OrK, not(a), not(x)))
	s.wantUnlike("and, or", s.alu(api.AndK, a, x), s.alu(api.OrK, a, x))
	s.wantUnlike("one bit", s.with(api.AndK, a, 0x80000000), s.with(api.AndK, a, 0x40000000))
	left := s.alu(api.XorK, s.alu(api.AndK, a, x), s.alu(api.OrK, m, w))
	right := s.alu(api.XorK, s.alu(api.OrK, w, m), s.alu(api.AndK, x, a))
	s.wantSame("four variables", left, right)
	s.wantUnlike("four variables", left, s.alu(api.XorK, s.alu(api.AndK, a, x), s.alu(api.AndK, m, w)))
	// Four variables occur here, but two of them don't matter: two more still have room.
	few := s.alu(api.XorK, s.alu(api.XorK, s.alu(api.XorK, a, x), s.alu(api.XorK, m, w)), s.alu(api.XorK, m, w))
	s.wantSame("two of four", few, s.alu(api.XorK, x, a))
}

// P16.3: a value that is both, a sum and bitwise, has one number, for each variable; so what is made from it counts as both.
func TestFlips(t *testing.T) {
	for i := range vars {
		s := newShelf(t)
		a := s.variable(i)
		for _, flip := range flips {
			flipped := s.with(api.XorK, a, flip)
			other := s.with(api.AddK, a, flip)
			if flip&1 == 1 {
				other = s.alu(api.SubK, s.number(flip), a)
			}
			s.wantSame("flipped", flipped, other)
			s.wantSame("taken back", s.with(api.XorK, other, flip), a)
			s.wantSame("a sum", s.with(api.SubK, s.with(api.AddK, flipped, 5), 5), flipped)
			x := s.variable((i + 1) % vars)
			s.wantSame("bitwise", s.alu(api.XorK, s.alu(api.XorK, other, x), x), other)
		}
	}
}

// P16.2, P16.3: in no other way is a sum of one variable bitwise: all exclusive ors and sums with edges, and near to the flips.
func TestNoFlips(t *testing.T) {
	s := newShelf(t)
	a := s.variable(0)
	near := append([]uint32{0x40000000, 0xbfffffff, 0xc0000000, 0x3fffffff}, edges...)
	var flipped, others []int
	for _, c := range near {
		flipped = append(flipped, s.with(api.XorK, a, c))
		others = append(others, s.with(api.AddK, a, c), s.alu(api.SubK, s.number(c), a), s.with(api.AddK, s.with(api.MulK, a, 0x80000001), c))
	}
	meanings := s.meanings(append(corners([]int{0}), mixed(3, 40)...))
	for _, x := range flipped {
		for _, y := range others {
			if s.same(x, y) && !alike(meanings[x], meanings[y]) {
				t.Errorf("nodes %+v and %+v: number %d", s.nodes[x], s.nodes[y], s.numbers[x])
			}
		}
	}
}

// P16.2: what may have no result stays so, even if nothing but that is left of it.
func TestNoResult(t *testing.T) {
	s := newShelf(t)
	a, x, zero := s.variable(0), s.variable(1), s.number(0)
	q := s.alu(api.DivK, a, x)
	never := s.alu(api.DivK, s.number(9), zero)
	for _, none := range []int{q, never, s.neg(q), s.neg(s.neg(q)), s.with(api.RshK, q, 3), s.with(api.LshK, q, 32), s.with(api.AddK, q, 0)} {
		for _, made := range []int{
			none, s.with(api.MulK, none, 0), s.with(api.AndK, none, 0), s.with(api.OrK, none, full), s.alu(api.SubK, none, none),
			s.alu(api.XorK, none, none), s.alu(api.DivK, none, none), s.alu(api.AndK, none, none), s.alu(api.DivK, zero, none),
			s.alu(api.LshK, zero, none), s.alu(api.RshK, zero, none), s.alu(api.MulK, zero, none), s.alu(api.AndK, zero, none), s.with(api.LshK, none, 32),
		} {
			s.wantEval(made, one(0, 7), outcome{})
			if n, ok := s.book.Constant(s.numbers[made]); n != 0 || ok {
				t.Errorf("Constant of %+v: %d, %v", s.nodes[made], n, ok)
			}
		}
	}
	for x, want := range s.outcomes(one(1, 2)) {
		s.wantEval(x, one(1, 2), want)
	}
	s.wantUnlike("quotients", q, never)
}

// Arithmetic of two constants is a constant, in each kind that has a result there.
func TestConstants(t *testing.T) {
	s := newShelf(t)
	for _, kind := range kinds {
		for _, c := range edges {
			for _, d := range edges {
				want := arithmetic(kind, outcome{c, true}, outcome{d, true})
				made := s.with(kind, s.number(c), d)
				if want.is {
					s.wantSame("constants", made, s.number(want.n))
				}
				if n, ok := s.book.Constant(s.numbers[made]); n != want.n || ok != want.is {
					t.Errorf("Constant of %#x, %#x, %#x: %#x, %v; want %#x, %v", kind, c, d, n, ok, want.n, want.is)
				}
			}
		}
	}
}

// What a constant doesn't change has the number that it had, whatever it is.
func TestUntouched(t *testing.T) {
	s := newShelf(t)
	q := s.alu(api.DivK, s.variable(0), s.variable(1))
	for _, x := range []int{q, s.alu(api.AndK, s.variable(0), s.variable(1)), s.with(api.RshK, s.variable(0), 1)} {
		for _, c := range []struct {
			kind int
			c    uint32
			both bool
		}{
			{api.AddK, 0, true}, {api.SubK, 0, false}, {api.MulK, 1, true}, {api.DivK, 1, false}, {api.OrK, 0, true}, {api.AndK, full, true},
			{api.LshK, 0, false}, {api.LshK, 32, false}, {api.RshK, 0, false}, {api.RshK, 0xffffffe0, false}, {api.XorK, 0, true},
		} {
			s.wantSame("untouched", s.with(c.kind, x, c.c), x)
			if made := s.alu(c.kind, s.number(c.c), x); s.same(made, x) != c.both {
				t.Errorf("%#x with %#x first: %v", c.kind, c.c, s.same(made, x))
			}
		}
		s.wantSame("negated twice", s.neg(s.neg(x)), x)
		s.wantUnlike("negated", s.neg(x), x)
	}
}

// P16.4: Constant knows all sums and bitwise values that are always the same, and says so of no others.
func TestConstant(t *testing.T) {
	for seed, s := range shelves(t) {
		sums, bitwise := s.sums(), s.bitwise()
		meanings := s.meanings(append(append(units(), corners([]int{0, 1, 2, 5, 18, 33})...), mixed(seed, 10)...))
		for x, outcomes := range meanings {
			always := true
			for _, o := range outcomes {
				always = always && o == outcomes[0] && o.is
			}
			n, ok := s.book.Constant(s.numbers[x])
			if ok && (!always || n != outcomes[0].n) || !ok && n != 0 {
				t.Errorf("Constant of %+v: %#x, %v; it is %v", s.nodes[x], n, ok, outcomes)
			}
			if !ok && always && (sums[x] || bitwise[x]) && s.few(x) {
				t.Errorf("Constant of %+v: %#x, %v; it always is %v", s.nodes[x], n, ok, outcomes[0])
			}
		}
	}
}

// few: are the assignments of TestConstant enough to tell that a node always is the same? They are for these variables.
func (s *shelf) few(x int) bool {
	switch n := s.nodes[x]; n.kind {
	case constant:
		return true
	case variable:
		return n.i <= 2 || n.i == 5 || n.i == 18 || n.i == 33
	case negation:
		return s.few(n.x)
	default:
		return s.few(n.x) && s.few(n.y)
	}
}

// P16.3: what Apart answers for two values of any kind tells them apart; what it doesn't know of, it answers zeros for.
func TestApart(t *testing.T) {
	for _, s := range shelves(t) {
		for x := range s.nodes {
			for y := range s.nodes {
				v, ok := s.book.Apart(s.numbers[x], s.numbers[y])
				if !ok && v != (assignment{}) {
					t.Fatalf("Apart of %+v and %+v: %v, false", s.nodes[x], s.nodes[y], v)
				}
				if !ok {
					continue
				}
				n, is := s.book.Eval(s.numbers[x], v)
				m, too := s.book.Eval(s.numbers[y], v)
				if n == m && is == too {
					t.Fatalf("Apart of %+v and %+v: %v, where both are %#x, %v", s.nodes[x], s.nodes[y], v, n, is)
				}
			}
		}
	}
}

// P16.2: values of more variables than bitwise ones have, and of sums with bitwise values.
func TestMany(t *testing.T) {
	s := newShelf(t)
	list := []int{0, 1, 2, 17, 18, 33}
	for _, kind := range bitKinds() {
		all := s.variable(0)
		for _, i := range list {
			all = s.alu(kind, all, s.variable(i))
		}
		again := s.alu(kind, all, all)
		s.alu(api.XorK, all, again)
		s.alu(api.AddK, s.alu(api.AndK, s.variable(0), s.variable(1)), all)
	}
	for _, v := range append(corners(list), mixed(7, 40)...) {
		for x, want := range s.outcomes(v) {
			s.wantEval(x, v, want)
		}
	}
}

// P0 (R1): what is deep, and what would be walked over and over, has its result all the same.
func TestDeep(t *testing.T) {
	b := sym.New()
	x := b.Alu(api.RshK, b.Var(0), b.Var(1))
	deep, twice := x, x
	for range 1 << 17 {
		deep = b.Neg(b.Alu(api.OrK, deep, x))
	}
	for range 300 {
		twice = b.Alu(api.MulK, twice, twice)
	}
	v := one(0, 6)
	v[1] = 1
	// 3 becomes 0 less 3 at first, that becomes 1, and 1 becomes 0 less 3 again.
	if n, ok := b.Eval(deep, v); n != 1 || !ok {
		t.Errorf("deep: %#x, %v", n, ok)
	}
	v[0] = 2
	if n, ok := b.Eval(twice, v); n != 1 || !ok {
		t.Errorf("twice: %#x, %v", n, ok)
	}
	if n := b.Alu(api.MulK, twice, twice); n != b.Len()-1 {
		t.Errorf("number %d of %d", n, b.Len())
	}
}

// P0 (R4): what is made alike in two books has the same numbers in both, and one knows nothing of the other; and asking
// changes nothing.
func TestRepeatable(t *testing.T) {
	first, second := shelves(t), shelves(t)
	for k, s := range first {
		for x, number := range s.numbers {
			if second[k].numbers[x] != number {
				t.Fatalf("node %+v: numbers %d and %d", s.nodes[x], number, second[k].numbers[x])
			}
		}
		before := s.book.Len()
		for x, number := range s.numbers {
			for range 3 {
				s.book.Eval(number, one(0, 3))
				s.book.Constant(number)
				s.book.Apart(number, s.numbers[0])
			}
			if again := s.made(s.nodes[x]); again != number {
				t.Fatalf("node %+v: numbers %d and %d", s.nodes[x], number, again)
			}
		}
		if s.book.Len() != before || second[k].book.Len() != before {
			t.Fatalf("Len: %d, %d and %d", before, s.book.Len(), second[k].book.Len())
		}
	}
}
