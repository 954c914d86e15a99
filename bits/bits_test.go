package bits_test

import (
	"math"
	"slices"
	"testing"

	"hurdle/affine"
	"hurdle/api"
	"hurdle/bits"
	"hurdle/word"
)

const (
	vars = 34
	most = 4
	full = 0xffffffff
)

type (
	form       = bits.Form
	assignment = [vars]uint32
)

var (
	// kinds are those that are done bit by bit.
	kinds = []int{api.OrK, api.AndK, api.XorK}

	// edges are numbers with bits at the ends, all alike, by turns, and mixed.
	edges = []uint32{
		0, 1, 2, 3, 0xff, 0xff00, 0xffff, 0x10000, 0x12345678, 0x55555555, 0x7fffffff, 0x80000000, 0x80000001,
		0xaaaaaaaa, 0xdeadbeef, 0xffffff00, 0xfffffffe, 0xffffffff,
	}

	// noVars are numbers that no variable has; most would be one's if they were cut to fewer bits.
	noVars = []int{
		-1, -2, -33, -34, -35, -256, -255, 34, 35, 36, 63, 64, 65, 127, 128, 255, 256, 257, 289, 0x10000, 0x10021, -0x10000, 1 << 31, 1<<31 + 33,
		math.MinInt32, math.MinInt32 + 1, math.MaxInt32, 1 << 32, 1<<32 + 1, 1<<32 + 33, -1 << 32, -1<<32 + 5, math.MinInt, math.MinInt + 1, math.MinInt + 33, math.MaxInt - 1, math.MaxInt,
	}

	// lists are variables of forms: of each count, next to each other and far apart, from the first one to the last.
	lists = [][]int{
		{0}, {1}, {17}, {18}, {33}, {0, 1}, {0, 33}, {1, 2}, {16, 17}, {32, 33}, {0, 1, 2}, {1, 17, 18}, {2, 3, 33}, {31, 32, 33},
		{0, 1, 2, 3}, {0, 1, 2, 33}, {0, 5, 17, 18}, {4, 5, 6, 7}, {30, 31, 32, 33},
	}
)

// numbers answers numbers that look mixed, the same for each seed.
func numbers(seed int) func() uint32 {
	n := uint64(seed)*2 + 1
	return func() uint32 {
		n = n*6364136223846793005 + 1442695040888963407
		return uint32(n >> 32)
	}
}

// number is the form of a number, and variable that of a variable that is there, both written out.
func number(c uint32) form {
	return form{Tab: []uint32{c}}
}

func variable(i int) form {
	return form{Vars: []int{i}, Tab: []uint32{0, full}}
}

// with answers a form with another word in its table.
func with(f form, at int, w uint32) form {
	f.Tab = slices.Clone(f.Tab)
	f.Tab[at] = w
	return f
}

// tabled makes a form word by word.
func tabled(list []int, at func(n int) uint32) form {
	f := form{Vars: slices.Clone(list)}
	for n := 0; n < 1<<len(list); n++ {
		f.Tab = append(f.Tab, at(n))
	}
	return f
}

// itself answers a number as a word, by which all variables matter.
func itself(n int) uint32 {
	return uint32(n)
}

// value splits a form by its last variable: where that has a 0, the first half of the table counts, else the second.
func value(f form, v assignment) uint32 {
	last := len(f.Vars) - 1
	if last < 0 {
		return f.Tab[0]
	}
	x, half := v[f.Vars[last]], len(f.Tab)/2
	low, high := form{f.Vars[:last], f.Tab[:half]}, form{f.Vars[:last], f.Tab[half:]}
	return value(low, v)&^x | value(high, v)&x
}

// valid holds the words where a variable has a 0 against those where it has a 1.
func valid(f form) bool {
	if len(f.Vars) > most || len(f.Tab) != []int{1, 2, 4, 8, 16}[len(f.Vars)] {
		return false
	}
	for j, i := range f.Vars {
		var words [2][]uint32
		for n, w := range f.Tab {
			side := n / []int{1, 2, 4, 8}[j] % 2
			words[side] = append(words[side], w)
		}
		if slices.Equal(words[0], words[1]) || i < 0 || i > 33 || j > 0 && f.Vars[j-1] >= i {
			return false
		}
	}
	return true
}

func same(f, g form) bool {
	return slices.Equal(f.Vars, g.Vars) && slices.Equal(f.Tab, g.Tab)
}

// union answers the variables of both forms, in increasing order.
func union(f, g form) []int {
	var out []int
	for i := range vars {
		if slices.Contains(f.Vars, i) || slices.Contains(g.Vars, i) {
			out = append(out, i)
		}
	}
	return out
}

// corner answers the assignment of a number: each of list is all ones or 0, and all others are 0.
func corner(list []int, n int) assignment {
	var v assignment
	for _, i := range list {
		if n%2 == 1 {
			v[i] = full
		}
		n /= 2
	}
	return v
}

// formOf makes the valid form of a function of some variables, from its values at the corners.
func formOf(list []int, of func(v assignment) uint32) form {
	var matter []int
	for _, i := range list {
		differs := false
		for n := 0; n < 1<<len(list); n++ {
			v := corner(list, n)
			w := v
			w[i] = ^w[i]
			differs = differs || of(v) != of(w)
		}
		if differs {
			matter = append(matter, i)
		}
	}
	return tabled(matter, func(n int) uint32 { return of(corner(matter, n)) })
}

// done is Go's own arithmetic.
func done(kind int, a, b uint32) uint32 {
	switch kind {
	case api.OrK:
		return a | b
	case api.AndK:
		return a & b
	}
	return a ^ b
}

// expect works Do out for forms that are valid and have few enough variables.
func expect(kind int, f, g form) form {
	return formOf(union(f, g), func(v assignment) uint32 { return done(kind, value(f, v), value(g, v)) })
}

func all(n uint32) assignment {
	v := assignment{}
	for i := range v {
		v[i] = n
	}
	return v
}

func mixed(next func() uint32) assignment {
	v := assignment{}
	for i := range v {
		v[i] = next()
	}
	return v
}

// forms are valid ones of each kind: constants, variables, masked and turned ones, and such of up to four variables.
func forms() []form {
	var out []form
	for _, n := range edges {
		out = append(out, number(n))
	}
	for i := range vars {
		out = append(out, variable(i), form{[]int{i}, []uint32{full, 0}}, form{[]int{i}, []uint32{0xff, 0xffff}})
	}
	next := numbers(1)
	for _, list := range lists {
		last := 1<<len(list) - 1
		nothing := tabled(list, func(int) uint32 { return 0 })
		everything := tabled(list, func(int) uint32 { return full })
		out = append(out,
			with(nothing, last, full),             // the and of all
			with(everything, 0, 0),                // the or of all
			with(nothing, last, 1),                // the and of their first bits
			with(nothing, int(next())&last, 1<<9), // one bit of one word alone
			with(everything, int(next())&last, 0x7fffffff),
			tabled(list, func(n int) uint32 { return -uint32((n ^ n>>1 ^ n>>2 ^ n>>3) & 1) }), // the exclusive or of all
			tabled(list, func(int) uint32 { return next() }),
			tabled(list, func(int) uint32 { return next() & 0xffff }),
			tabled(list, func(int) uint32 { return next() | 0xffff }),
		)
	}
	return slices.DeleteFunc(out, func(f form) bool { return !valid(f) })
}

// wrongs are forms that are not valid.
func wrongs() []form {
	out := []form{
		{},
		{Vars: []int{}, Tab: []uint32{}},
		{Vars: []int{0}},
		{Vars: []int{0}, Tab: []uint32{1}},
		{Vars: []int{0}, Tab: []uint32{1, 2, 3}},
		{Vars: []int{0}, Tab: []uint32{1, 2, 3, 4}},
		{Tab: []uint32{1, 2}},
		{Tab: []uint32{1, 1}},
		{Vars: []int{0, 1}, Tab: []uint32{0, 1, 2}},
		{Vars: []int{0, 1}, Tab: []uint32{0, full}},
		{Vars: []int{0, 0}, Tab: []uint32{0, 1, 2, 3}},
		{Vars: []int{1, 0}, Tab: []uint32{0, 1, 2, 3}},
		{Vars: []int{0, 2, 1}, Tab: []uint32{0, 1, 2, 3, 4, 5, 6, 7}},
		{Vars: []int{0, 2, 2}, Tab: []uint32{0, 1, 2, 3, 4, 5, 6, 7}},
		{Vars: []int{3, 1, 2}, Tab: []uint32{0, 1, 2, 3, 4, 5, 6, 7}},
		{Vars: []int{0, 1, 3, 2}, Tab: tabled(lists[14], itself).Tab},
		{Vars: []int{33, 0, 1, 2}, Tab: tabled(lists[14], itself).Tab},
		{Vars: []int{1}, Tab: []uint32{3, 3}},
		{Vars: []int{33}, Tab: []uint32{full, full}},
		{Vars: make([]int, 1000), Tab: make([]uint32, 1<<16)},
		{Vars: make([]int, 64), Tab: []uint32{7}},
		{Vars: make([]int, 32), Tab: []uint32{7}},
		{Tab: make([]uint32, 1<<16)},
	}
	for count := most + 1; count < 12; count++ {
		list := make([]int, count)
		for j := range list {
			list[j] = j
		}
		out = append(out, tabled(list, itself), form{list, tabled(lists[14], itself).Tab})
	}
	for _, i := range noVars {
		out = append(out, variable(i), form{[]int{0, i}, []uint32{0, 1, 2, 3}}, form{[]int{i, 33}, []uint32{0, 1, 2, 3}}, form{[]int{i, i + 1}, []uint32{0, 1, 2, 3}})
	}
	for _, list := range lists {
		for j := range list {
			// All words are other ones, but for the variable's bit.
			out = append(out, tabled(list, func(n int) uint32 { return uint32(n&^(1<<j)) + 1 }))
		}
		tab := tabled(list, itself).Tab
		out = append(out, form{list, tab[1:]}, form{list, slices.Concat(tab, []uint32{99})}, form{list, slices.Concat(tab, tab)}, form{list, nil}, form{nil, tab})
	}
	return out
}

// assignments are edges and mixed ones.
func assignments() []assignment {
	var out []assignment
	for _, n := range edges {
		out = append(out, all(n))
	}
	next := numbers(2)
	for range 20 {
		out = append(out, mixed(next))
	}
	return out
}

// pairs calls f with all pairs of forms.
func pairs(f func(f, g form)) {
	list := forms()
	for _, x := range list {
		for _, y := range list {
			f(x, y)
		}
	}
}

func wantForm(t *testing.T, what string, got, want form) {
	t.Helper()
	if !same(got, want) {
		t.Errorf("%s: %+v; want %+v", what, got, want)
	}
}

func wantDo(t *testing.T, kind int, f, g, want form) {
	t.Helper()
	for _, x := range [][2]form{{f, g}, {g, f}} {
		if got, ok := bits.Do(kind, x[0], x[1]); !same(got, want) || !ok {
			t.Errorf("Do(%#x, %+v, %+v): %+v, %v; want %+v", kind, x[0], x[1], got, ok, want)
		}
	}
}

func wantNoDo(t *testing.T, kind int, f, g form) {
	t.Helper()
	for _, x := range [][2]form{{f, g}, {g, f}} {
		if got, ok := bits.Do(kind, x[0], x[1]); !same(got, form{}) || ok {
			t.Errorf("Do(%#x, %+v, %+v): %+v, %v; want the zero form, false", kind, x[0], x[1], got, ok)
		}
	}
}

func wantEval(t *testing.T, f form, v assignment, want uint32, is bool) {
	t.Helper()
	if got, ok := bits.Eval(f, v); got != want || ok != is {
		t.Errorf("Eval(%+v, %v): %#x, %v; want %#x, %v", f, v, got, ok, want, is)
	}
}

func wantApart(t *testing.T, f, g form, v assignment, differ bool) {
	t.Helper()
	for _, x := range [][2]form{{f, g}, {g, f}} {
		if got, ok := bits.Apart(x[0], x[1]); got != v || ok != differ {
			t.Errorf("Apart(%+v, %+v): %v, %v; want %v, %v", x[0], x[1], got, ok, v, differ)
		}
	}
}

func wantRight(t *testing.T, f form, want bool) {
	t.Helper()
	if got := bits.Right(f); got != want {
		t.Errorf("Right(%+v): %v", f, got)
	}
}

func wantSame(t *testing.T, f, g form, want bool) {
	t.Helper()
	if bits.Same(f, g) != want || bits.Same(g, f) != want {
		t.Errorf("Same(%+v, %+v): %v, %v; want %v", f, g, bits.Same(f, g), bits.Same(g, f), want)
	}
}

// The variables are those of package affine, and ErrArg is 1.
func TestNumbers(t *testing.T) {
	if bits.Most != most || affine.Vars != vars || api.OK != 0 || api.ErrArg != 1 {
		t.Errorf("Most: %d; Vars: %d; OK: %d; ErrArg: %d", bits.Most, affine.Vars, api.OK, api.ErrArg)
	}
}

// The example of the chapter.
func TestExample(t *testing.T) {
	a, _ := bits.Var(0)
	x, _ := bits.Var(1)
	low, _ := bits.Do(api.AndK, a, bits.Const(0xff))
	high, _ := bits.Do(api.AndK, x, bits.Const(0xff00))
	wantDo(t, api.OrK, low, high, form{[]int{0, 1}, []uint32{0, 0xff, 0xff00, 0xffff}})
}

// P15.1: forms that are valid, and such that are not.
func TestRight(t *testing.T) {
	for _, f := range forms() {
		wantRight(t, f, true)
	}
	for _, f := range wrongs() {
		wantRight(t, f, false)
	}
}

// P15.1: all tables of up to four variables, with words of one bit, wherever that bit is.
func TestRightAllTables(t *testing.T) {
	for count := 0; count <= most; count++ {
		for tab := 0; tab < 1<<(1<<count); tab++ {
			f := tabled([]int{3, 9, 20, 33}[:count], func(n int) uint32 { return uint32(tab>>n&1) << (tab % 32) })
			wantRight(t, f, valid(f))
		}
	}
}

// P15.1: variables in each order, and twice.
func TestRightOrders(t *testing.T) {
	words := tabled(lists[14], itself).Tab
	for n := range 6 * 6 * 6 * 6 {
		list := []int{n%6*8 - 5, n/6%6*8 - 5, n/36%6*8 - 5, n/216*8 - 5}
		for count := range most + 1 {
			f := form{list[:count], words[:1<<count]}
			wantRight(t, f, valid(f))
		}
	}
}

// P15.1: Const.
func TestConst(t *testing.T) {
	next := numbers(3)
	for range 1000 {
		n := next()
		wantForm(t, "Const", bits.Const(n), number(n))
	}
	for _, n := range edges {
		wantForm(t, "Const", bits.Const(n), number(n))
		for _, v := range assignments() {
			wantEval(t, bits.Const(n), v, n, true)
		}
	}
}

// P15.1: Var, for each variable.
func TestVar(t *testing.T) {
	for i := range vars {
		f, e := bits.Var(i)
		if e != api.OK {
			t.Errorf("Var(%d): %d", i, e)
		}
		wantForm(t, "Var", f, variable(i))
		for _, v := range assignments() {
			wantEval(t, f, v, v[i], true)
		}
	}
}

// P15.1, P0 (R1, R2): there are no other variables, and beside ErrArg the form is zero.
func TestNoVar(t *testing.T) {
	none := slices.Clone(noVars)
	for i := range 5000 {
		none = append(none, -1-i, vars+i)
	}
	for _, i := range none {
		if f, e := bits.Var(i); !same(f, form{}) || e != api.ErrArg {
			t.Errorf("Var(%d): %+v, %d; want the zero form and ErrArg", i, f, e)
		}
	}
}

// P15.1: a value's bits are those of words, told by the variables' bits: the first variable's is the least significant.
func TestEvalExamples(t *testing.T) {
	f := form{[]int{0, 1}, []uint32{0x000000ff, 0x0000ff00, 0x00ff0000, 0xff000000}}
	for _, c := range []struct{ a, x, want uint32 }{
		{0, 0, 0xff},
		{full, 0, 0xff00},
		{0, full, 0xff0000},
		{full, full, 0xff000000},
		{0x0f0f0f0f, 0x00ffff00, 0x00f000f0},
		{0xff00ff00, 0x000000ff, 0x0000ff00},
		{0xff000000, 0xff000000, 0xff0000ff},
		{0x80000000, 0x80000000, 0x800000ff},
		{1, 0, 0xfe},
		{0, 1, 0xfe},
		{0x100, 0, 0x1ff},
		{0, 0x10000, 0x100ff},
	} {
		wantEval(t, f, assignment{0: c.a, 1: c.x}, c.want, true)
	}
	g := form{[]int{2, 17, 18, 33}, tabled(lists[14], func(n int) uint32 { return 1<<n | 1<<(16+n) }).Tab}
	wantEval(t, g, assignment{2: 0xaaaaaaaa, 17: 0xcccccccc, 18: 0xf0f0f0f0, 33: 0xff00ff00}, full, true)
	wantEval(t, g, assignment{2: 0x55555555, 17: 0xcccccccc, 18: 0xf0f0f0f0, 33: 0xff00ff00}, 0, true)
	wantEval(t, g, assignment{}, 0x00010001, true)
	wantEval(t, g, all(full), 0x80008000, true)
	wantEval(t, g, assignment{2: full}, 0x00020002, true)
	wantEval(t, g, assignment{33: full}, 0x01000100, true)
}

// P15.1: values of all forms, for assignments of each kind.
func TestEval(t *testing.T) {
	list := assignments()
	for _, f := range forms() {
		for _, v := range list {
			wantEval(t, f, v, value(f, v), true)
		}
		for n := 0; n < len(f.Tab); n++ {
			wantEval(t, f, corner(f.Vars, n), f.Tab[n], true)
		}
	}
}

// P15.1, P0 (R1): forms that are not valid have no value.
func TestNoEval(t *testing.T) {
	for _, f := range wrongs() {
		for _, v := range []assignment{{}, all(full), all(0xdeadbeef)} {
			wantEval(t, f, v, 0, false)
		}
	}
}

// P15.1: Same holds lists and tables against each other, whether a form is valid or not.
func TestSame(t *testing.T) {
	list := append(forms(), wrongs()...)
	for _, f := range list {
		wantSame(t, f, form{slices.Clone(f.Vars), slices.Clone(f.Tab)}, true)
		for j := range f.Tab[:min(len(f.Tab), 20)] {
			wantSame(t, f, with(f, j, f.Tab[j]^1), false)
			wantSame(t, f, with(f, j, f.Tab[j]^0x80000000), false)
		}
		for j := range f.Vars {
			g := form{slices.Clone(f.Vars), f.Tab}
			g.Vars[j]++
			wantSame(t, f, g, false)
		}
		wantSame(t, f, form{append(slices.Clone(f.Vars), 3), f.Tab}, false)
		wantSame(t, f, form{f.Vars, append(slices.Clone(f.Tab), 3)}, false)
		wantSame(t, f, form{f.Vars, append(slices.Clone(f.Tab), f.Tab...)}, len(f.Tab) == 0)
	}
	for _, f := range list {
		for _, g := range list {
			wantSame(t, f, g, same(f, g))
		}
	}
}

// P15.1, P0 (R3): a list that is nil is like one that is empty; and lists in other orders are other lists.
func TestSameExamples(t *testing.T) {
	wantSame(t, form{}, form{[]int{}, []uint32{}}, true)
	wantSame(t, form{nil, []uint32{5}}, form{[]int{}, []uint32{5}}, true)
	wantSame(t, form{[]int{1}, nil}, form{[]int{1}, []uint32{}}, true)
	wantSame(t, form{}, number(0), false)
	wantSame(t, form{[]int{0, 1}, []uint32{0, 1, 1, 0}}, form{[]int{1, 0}, []uint32{0, 1, 1, 0}}, false)
	wantSame(t, form{[]int{0, 1}, []uint32{0, 1, 2, 3}}, form{[]int{0, 1}, []uint32{0, 2, 1, 3}}, false)
	wantSame(t, form{[]int{1}, []uint32{3, 3}}, number(3), false)
	wantSame(t, form{[]int{-1, -1}, []uint32{3}}, form{[]int{-1, -1}, []uint32{3}}, true)
}

// P15.2: what comes of numbers, variables and both.
func TestDoExamples(t *testing.T) {
	a, x := variable(0), variable(1)
	for _, c := range []struct {
		kind       int
		f, g, want form
	}{
		{api.OrK, number(0x0ff0), number(0xff00), number(0xfff0)},
		{api.AndK, number(0x0ff0), number(0xff00), number(0x0f00)},
		{api.XorK, number(0x0ff0), number(0xff00), number(0xf0f0)},
		{api.OrK, a, x, form{[]int{0, 1}, []uint32{0, full, full, full}}},
		{api.AndK, a, x, form{[]int{0, 1}, []uint32{0, 0, 0, full}}},
		{api.XorK, a, x, form{[]int{0, 1}, []uint32{0, full, full, 0}}},
		{api.OrK, a, number(0xff), form{[]int{0}, []uint32{0xff, full}}},
		{api.AndK, a, number(0xff), form{[]int{0}, []uint32{0, 0xff}}},
		{api.XorK, a, number(0xff), form{[]int{0}, []uint32{0xff, 0xffffff00}}},
		{api.OrK, a, number(full), number(full)},
		{api.AndK, a, number(0), number(0)},
		{api.AndK, a, number(full), a},
		{api.XorK, a, a, number(0)},
		{api.XorK, a, form{[]int{0}, []uint32{full, 0}}, number(full)},
		// (A and 0xff) or (A and 0xffffff00) is A.
		{api.OrK, form{[]int{0}, []uint32{0, 0xff}}, form{[]int{0}, []uint32{0, 0xffffff00}}, a},
		{api.AndK, form{[]int{0}, []uint32{0, 0xff}}, form{[]int{0}, []uint32{0, 0xff00}}, number(0)},
		// Variables that are between, ahead of and behind the other form's.
		{api.OrK, variable(9), form{[]int{5, 33}, []uint32{0, 1, 2, 3}}, form{[]int{5, 9, 33}, []uint32{0, 1, full, full, 2, 3, full, full}}},
		{api.OrK, variable(4), form{[]int{5, 33}, []uint32{0, 1, 2, 3}}, form{[]int{4, 5, 33}, []uint32{0, full, 1, full, 2, full, 3, full}}},
		{api.AndK, variable(33), form{[]int{5, 6}, []uint32{0, 1, 2, 3}}, form{[]int{5, 6, 33}, []uint32{0, 0, 0, 0, 0, 1, 2, 3}}},
		// Of two or three variables, only the last one, the first one, or one of them is left.
		{api.XorK, form{[]int{0, 1}, []uint32{0, full, full, 0}}, a, x},
		{api.XorK, form{[]int{0, 1}, []uint32{0, full, full, 0}}, x, a},
		{api.XorK, form{[]int{0, 7, 8}, []uint32{0, full, full, 0, full, 0, 0, full}}, form{[]int{0, 8}, []uint32{0, full, full, 0}}, variable(7)},
		{api.OrK, form{[]int{0, 1}, []uint32{0, 0, 0, full}}, a, a},
		{api.AndK, form{[]int{0, 1}, []uint32{0, full, full, full}}, x, x},
	} {
		wantDo(t, c.kind, c.f, c.g, c.want)
	}
}

// P15.2: all pairs of forms, those with too many variables among them; of those some would need none of these.
func TestDoPairs(t *testing.T) {
	did, refused := 0, 0
	pairs(func(f, g form) {
		for _, kind := range kinds {
			if len(union(f, g)) > most {
				wantNoDo(t, kind, f, g)
				refused++
				continue
			}
			wantDo(t, kind, f, g, expect(kind, f, g))
			did++
		}
	})
	if did == 0 || refused == 0 {
		t.Errorf("done: %d; refused: %d", did, refused)
	}
}

// P15.2: all forms of two of three variables, with words of one bit, wherever that bit is.
func TestDoAllTables(t *testing.T) {
	for at := 0; at < 32; at += 31 {
		var small []form
		for _, list := range [][]int{{4, 5}, {5, 33}, {4, 33}} {
			for tab := range 16 {
				small = append(small, tabled(list, func(n int) uint32 { return uint32(tab>>n&1) << at }))
			}
		}
		for _, f := range small {
			for _, g := range small {
				for _, kind := range kinds {
					if valid(f) && valid(g) {
						wantDo(t, kind, f, g, expect(kind, f, g))
					} else {
						wantNoDo(t, kind, f, g)
					}
				}
			}
		}
	}
}

// P15.2: what comes out is valid, and its value is that of the values, also for mixed assignments.
func TestDoValues(t *testing.T) {
	list := assignments()[10:30]
	pairs(func(f, g form) {
		for _, kind := range kinds {
			h, ok := bits.Do(kind, f, g)
			if !ok {
				continue
			}
			wantRight(t, h, true)
			for _, v := range list[:6] {
				x, _ := bits.Eval(f, v)
				y, _ := bits.Eval(g, v)
				want, _ := word.Do(kind, x, y)
				wantEval(t, h, v, want, true)
			}
		}
	})
}

// P15.2: long computations with four variables, step by step.
func TestDoChains(t *testing.T) {
	next := numbers(5)
	for round := range 200 {
		list := lists[14+round%5]
		f, v := number(next()), mixed(next)
		want := f.Tab[0]
		for step := range 40 {
			kind := kinds[next()>>8%3]
			g, y := number(next()), uint32(0)
			if n := next() >> 8 % 5; n < 4 {
				g = variable(list[n])
			}
			y = value(g, v)
			h, ok := bits.Do(kind, f, g)
			if !ok || !bits.Right(h) {
				t.Fatalf("round %d, step %d: Do(%#x, %+v, %+v): %+v, %v", round, step, kind, f, g, h, ok)
			}
			f, want = h, done(kind, want, y)
			wantEval(t, f, v, want, true)
		}
	}
}

// P15.2: four variables together are not too many, however the forms share them; five are, even if none would matter.
func TestDoTogether(t *testing.T) {
	low := func(list []int) form { return tabled(list, itself) }
	high := func(list []int) form { return tabled(list, func(n int) uint32 { return uint32(n) << 16 }) }
	for _, c := range []struct {
		f, g []int
		fits bool
	}{
		{[]int{0, 1, 2, 3}, []int{0, 1, 2, 3}, true},
		{[]int{0, 1, 2, 3}, []int{3}, true},
		{[]int{0, 1, 2, 3}, nil, true},
		{[]int{0, 1, 2}, []int{1, 2, 3}, true},
		{[]int{0, 2}, []int{1, 3}, true},
		{[]int{30, 31, 32}, []int{33}, true},
		{[]int{0, 1, 2, 3}, []int{4}, false},
		{[]int{1, 2, 3, 4}, []int{0}, false},
		{[]int{0, 1, 2}, []int{2, 3, 4}, false},
		{[]int{0, 2, 4}, []int{1, 3}, false},
		{[]int{0, 1, 2, 3}, []int{4, 5, 6, 7}, false},
		{[]int{0, 1, 2, 3}, []int{1, 2, 3, 4}, false},
		{[]int{0, 1, 32}, []int{0, 31, 33}, false},
	} {
		f, g := low(c.f), high(c.g)
		for _, kind := range kinds {
			if c.fits {
				wantDo(t, kind, f, g, expect(kind, f, g))
			} else {
				wantNoDo(t, kind, f, g)
			}
		}
		if c.fits {
			wantDo(t, api.AndK, f, g, number(0))
		}
	}
}

// P15.2, P0 (R1): other operations, and numbers that are none, are not done.
func TestDoNoKind(t *testing.T) {
	list := []form{number(5), variable(0), {[]int{0, 1}, []uint32{0, 1, 2, 3}}}
	other := []int{math.MinInt, math.MinInt + api.OrK, math.MinInt32, math.MaxInt32, math.MaxInt - 1, math.MaxInt}
	for kind := -300; kind <= 0x1100; kind++ {
		other = append(other, kind)
	}
	for _, kind := range kinds {
		other = append(other, -kind, ^kind, kind+1<<8, kind+1<<16, kind+1<<32, kind-1<<32)
	}
	for _, kind := range other {
		if slices.Contains(kinds, kind) {
			continue
		}
		for _, f := range list {
			for _, g := range list {
				wantNoDo(t, kind, f, g)
			}
		}
	}
}

// P15.2, P0 (R1): forms that are not valid are not done, whichever of the two is one.
func TestDoWrongForms(t *testing.T) {
	bad := wrongs()
	for at, f := range bad {
		for _, kind := range append([]int{api.AddK, -1}, kinds...) {
			for _, g := range []form{number(0), number(full), variable(0), {[]int{0, 1}, []uint32{0, 1, 2, 3}}, f, bad[(at+1)%len(bad)]} {
				wantNoDo(t, kind, f, g)
			}
		}
	}
}

// P15.3: the first corner that tells.
func TestApartExamples(t *testing.T) {
	a, x := variable(0), variable(1)
	low := form{[]int{0}, []uint32{0, 0xff}}
	for _, c := range []struct {
		f, g form
		v    assignment
	}{
		{number(1), number(2), assignment{}},
		{number(0), number(0x80000000), assignment{}},
		{a, number(1), assignment{}},
		{a, number(0), assignment{0: full}},
		{a, low, assignment{0: full}},
		{a, x, assignment{0: full}},
		{variable(33), x, assignment{1: full}},
		{a, form{[]int{0}, []uint32{full, 0}}, assignment{}},
		{variable(33), number(0), assignment{33: full}},
		{form{[]int{0, 1}, []uint32{0, 0, 0, full}}, number(0), assignment{0: full, 1: full}},
		{form{[]int{0, 1}, []uint32{0, 0, 0, full}}, a, assignment{0: full}},
		{form{[]int{0, 1}, []uint32{0, 0, 0, full}}, x, assignment{1: full}},
		{form{[]int{0, 1}, []uint32{0, full, full, full}}, form{[]int{0, 1}, []uint32{0, full, full, 0}}, assignment{0: full, 1: full}},
		// The smaller number, 2, is X alone; the forms differ for A and cell 0, and for all three, too.
		{form{[]int{0, 1, 2}, []uint32{0, 0, 1, 0, 0, 1, 0, 1}}, number(0), assignment{1: full}},
		// A variable of one form alone is between, ahead of or behind those of the other.
		{form{[]int{3, 7}, []uint32{0, 0, 0, 4}}, form{[]int{5}, []uint32{0, 4}}, assignment{5: full}},
		{form{[]int{3, 7}, []uint32{0, 0, 0, 4}}, form{[]int{3, 5, 7}, []uint32{0, 0, 0, 0, 0, 4, 0, 0}}, assignment{3: full, 5: full, 7: full}},
		{form{[]int{3, 7}, []uint32{0, 0, 0, 4}}, form{[]int{2, 3, 7}, []uint32{0, 0, 0, 0, 0, 0, 4, 0}}, assignment{2: full, 3: full, 7: full}},
		{form{[]int{3, 7}, []uint32{0, 0, 0, 4}}, form{[]int{3, 7, 33}, []uint32{0, 0, 0, 4, 0, 0, 0, 0}}, assignment{3: full, 7: full, 33: full}},
	} {
		wantApart(t, c.f, c.g, c.v, true)
	}
}

// smallest answers the first corner of both forms' variables with different values, if there is one.
func smallest(f, g form) (assignment, bool) {
	list := union(f, g)
	for n := 0; n < 1<<len(list); n++ {
		if v := corner(list, n); value(f, v) != value(g, v) {
			return v, true
		}
	}
	return assignment{}, false
}

// P15.3, P15.4: all pairs of forms: they are told apart just if they are not equal.
func TestApartPairs(t *testing.T) {
	pairs(func(f, g form) {
		v, differ := smallest(f, g)
		if differ == same(f, g) {
			t.Errorf("%+v and %+v: %v", f, g, differ)
		}
		wantApart(t, f, g, v, differ)
		got, _ := bits.Apart(f, g)
		x, _ := bits.Eval(f, got)
		y, _ := bits.Eval(g, got)
		if (x != y) != differ {
			t.Errorf("%+v and %+v: the values for %v are %#x and %#x", f, g, got, x, y)
		}
	})
}

// P15.3: forms of eight variables together, which differ in few places.
func TestApartManyVariables(t *testing.T) {
	next := numbers(6)
	list := []int{0, 2, 3, 9, 17, 18, 32, 33}
	for range 3000 {
		var own [2][]int
		for _, i := range list {
			side := next() >> 8 % 2
			own[side] = append(own[side], i)
		}
		if len(own[0]) != most {
			continue
		}
		f := with(tabled(own[0], func(int) uint32 { return 6 }), int(next()>>8%16), next())
		g := with(tabled(own[1], func(int) uint32 { return 6 }), int(next()>>8%16), next())
		v, differ := smallest(f, g)
		if !valid(f) || !valid(g) || !differ {
			t.Fatalf("%+v and %+v", f, g)
		}
		wantApart(t, f, g, v, true)
	}
	all4, other4 := with(tabled(list[:4], func(int) uint32 { return 0 }), 15, 1), with(tabled(list[4:], func(int) uint32 { return 0 }), 15, 1)
	wantApart(t, all4, other4, corner(list, 15), true)
	wantApart(t, with(other4, 15, 2), all4, corner(list, 15), true)
	wantApart(t, other4, number(0), corner(list, 0xf0), true)
}

// P15.3, P0 (R1): nothing is told of forms that are not valid, nor of equal ones.
func TestNoApart(t *testing.T) {
	bad := wrongs()
	for at, f := range bad {
		for _, g := range []form{number(0), number(full), variable(0), {[]int{0, 1}, []uint32{0, 1, 2, 3}}, f, bad[(at+1)%len(bad)]} {
			wantApart(t, f, g, assignment{}, false)
		}
	}
	for _, f := range forms() {
		wantApart(t, f, form{slices.Clone(f.Vars), slices.Clone(f.Tab)}, assignment{}, false)
	}
	wantApart(t, number(7), form{[]int{}, []uint32{7}}, assignment{}, false)
}

// P15.4: all valid forms of two of three variables, with words of one bit: equal values at the corners make equal forms.
func TestExact(t *testing.T) {
	seen := map[int]form{}
	for _, list := range [][]int{{}, {4}, {5}, {33}, {4, 5}, {5, 33}, {4, 33}, {4, 5, 33}} {
		for tab := range 1 << (1 << len(list)) {
			f := tabled(list, func(n int) uint32 { return uint32(tab >> n & 1) })
			if !bits.Right(f) {
				continue
			}
			values := 0
			for n := range 8 {
				w, _ := bits.Eval(f, corner([]int{4, 5, 33}, n))
				values |= int(w) << n
			}
			if g, ok := seen[values]; ok {
				t.Errorf("%+v and %+v have the same values", f, g)
			}
			seen[values] = f
		}
	}
	if len(seen) != 256 {
		t.Errorf("%d functions of three variables have forms; want all 256", len(seen))
	}
}

// P15.5: a form with itself.
func TestFormWithItself(t *testing.T) {
	for _, f := range forms() {
		wantDo(t, api.OrK, f, f, f)
		wantDo(t, api.AndK, f, f, f)
		wantDo(t, api.XorK, f, f, number(0))
	}
}

// P15.2: laws that hold of whatever is done bit by bit.
func TestLaws(t *testing.T) {
	do := func(kind int, f, g form) form {
		h, ok := bits.Do(kind, f, g)
		if !ok {
			t.Errorf("Do(%#x, %+v, %+v): false", kind, f, g)
		}
		return h
	}
	not := func(f form) form { return do(api.XorK, f, number(full)) }
	pairs(func(f, g form) {
		if len(union(f, g)) > most {
			return
		}
		or, and, xor := do(api.OrK, f, g), do(api.AndK, f, g), do(api.XorK, f, g)
		wantForm(t, "the exclusive or, less the second", do(api.XorK, xor, g), f)
		wantForm(t, "the or with the and", do(api.OrK, f, and), f)
		wantForm(t, "the and with the or", do(api.AndK, f, or), f)
		wantForm(t, "the exclusive or of or and and", do(api.XorK, or, and), xor)
		wantForm(t, "the complement of the or", not(or), do(api.AndK, not(f), not(g)))
	})
}

// clone answers a form that shares no memory with f, spare memory included.
func clone(f form) form {
	return form{slices.Clone(f.Vars[:cap(f.Vars)])[:len(f.Vars)], slices.Clone(f.Tab[:cap(f.Tab)])[:len(f.Tab)]}
}

// spoil writes into all of a form's memory, its spare memory included.
func spoil(f form) {
	for j := range f.Vars[:cap(f.Vars)] {
		f.Vars[:cap(f.Vars)][j] = -7
	}
	for j := range f.Tab[:cap(f.Tab)] {
		f.Tab[:cap(f.Tab)][j] = 0x77777777
	}
}

// roomy answers a form with spare memory behind its lists.
func roomy(f form) form {
	return form{append(slices.Clone(f.Vars), 1, 2, 3, 4, 5, 6)[:len(f.Vars)], append(slices.Clone(f.Tab), 1, 2, 3, 4, 5, 6)[:len(f.Tab)]}
}

// whole: have two forms the same memory, spare memory included?
func whole(f, g form) bool {
	return same(f, g) && slices.Equal(f.Vars[:cap(f.Vars)], g.Vars[:cap(f.Vars)]) && slices.Equal(f.Tab[:cap(f.Tab)], g.Tab[:cap(f.Tab)])
}

// P0 (R3): arguments stay as they are, with their spare memory, whatever is called.
func TestArgumentsAreLeft(t *testing.T) {
	list := append(forms(), wrongs()...)
	for at, f := range list {
		g := roomy(list[(at*7+3)%len(list)])
		f = roomy(f)
		oldF, oldG := clone(f), clone(g)
		for _, kind := range append([]int{api.AddK}, kinds...) {
			bits.Do(kind, f, g)
			bits.Do(kind, g, f)
			bits.Do(kind, f, f)
		}
		bits.Right(f)
		bits.Eval(f, all(3))
		bits.Same(f, g)
		bits.Apart(f, g)
		if !whole(oldF, f) || !whole(oldG, g) {
			t.Errorf("%+v, %+v: before %+v, %+v", f, g, oldF, oldG)
		}
	}
}

// P0 (R3): a result shares no memory with an argument, nor with another result.
func TestResultsAreNew(t *testing.T) {
	pairs(func(f, g form) {
		for _, kind := range kinds {
			left, right := roomy(f), roomy(g)
			h, ok := bits.Do(kind, left, right)
			again, _ := bits.Do(kind, left, right)
			if !ok {
				continue
			}
			kept := clone(h)
			spoil(left)
			spoil(right)
			spoil(again)
			if !same(h, kept) {
				t.Errorf("Do(%#x, %+v, %+v): %+v; before %+v", kind, f, g, h, kept)
			}
			left, right = roomy(f), roomy(g)
			h, _ = bits.Do(kind, left, right)
			spoil(h)
			if !same(left, f) || !same(right, g) {
				t.Errorf("%+v, %+v: before %+v, %+v", left, right, f, g)
			}
		}
	})
	for i := range vars {
		f, _ := bits.Var(i)
		spoil(f)
		spoil(bits.Const(uint32(i)))
		f, _ = bits.Var(i)
		wantForm(t, "Var", f, variable(i))
		wantForm(t, "Const", bits.Const(uint32(i)), number(uint32(i)))
	}
	f, g := variable(3), variable(4)
	first, _ := bits.Apart(f, g)
	first[3] = 5
	wantApart(t, f, g, assignment{3: full}, true)
}

// P0 (R4): a call's result does not hang on the calls before it.
func TestCallsAreRepeatable(t *testing.T) {
	type answer struct {
		results  [3]form
		ok       [3]bool
		value    uint32
		variable form
		errno    api.Errno
		apart    assignment
		differ   [4]bool
	}
	ask := func(f, g form) answer {
		var x answer
		for j, kind := range kinds {
			x.results[j], x.ok[j] = bits.Do(kind, f, g)
		}
		x.value, x.differ[0] = bits.Eval(f, all(0x12345678))
		x.variable, x.errno = bits.Var(len(f.Tab)*3 - 1)
		x.apart, x.differ[1] = bits.Apart(f, g)
		x.differ[2], x.differ[3] = bits.Right(f), bits.Same(f, g)
		return x
	}
	equal := func(x, y answer) bool {
		return slices.EqualFunc(x.results[:], y.results[:], same) && x.ok == y.ok && x.value == y.value && same(x.variable, y.variable) && x.errno == y.errno && x.apart == y.apart && x.differ == y.differ
	}
	var first []answer
	pairs(func(f, g form) { first = append(first, ask(f, g)) })
	at := 0
	pairs(func(f, g form) {
		if x := ask(f, g); !equal(x, first[at]) {
			t.Fatalf("%+v, %+v: %+v; before %+v", f, g, x, first[at])
		}
		at++
	})
}
