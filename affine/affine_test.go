package affine_test

import (
	"math"
	"slices"
	"testing"

	"hurdle/affine"
	"hurdle/api"
)

const (
	vars    = 34
	modulus = 1 << 32
)

type (
	form       = affine.Form
	assignment = [vars]uint32
)

var (
	// edges are numbers at which arithmetic modulo 2^32 may go wrong, and some plain ones between.
	edges = []uint32{
		0, 1, 2, 3, 7, 31, 32, 33, 255, 256, 0x7fff, 0x8000, 0xffff, 0x10000, 0x10001, 0x12345678, 0x55555555,
		0x7fffffff, 0x80000000, 0x80000001, 0xaaaaaaaa, 0xdeadbeef, 0xfffffffe, 0xffffffff,
	}

	// noVars are numbers that no variable has; most would be one's if they were cut to fewer bits.
	noVars = []int{
		-1, -2, -33, -34, -35, -256, -255, 34, 35, 36, 63, 64, 65, 127, 128, 255, 256, 257, 289, 0x10000, 0x10021, -0x10000, 1 << 31, 1<<31 + 33,
		math.MinInt32, math.MinInt32 + 1, math.MaxInt32, 1 << 32, 1<<32 + 1, 1<<32 + 33, -1 << 32, -1<<32 + 5, math.MinInt, math.MinInt + 1, math.MinInt + 33, math.MaxInt - 1, math.MaxInt,
	}
)

// numbers answers numbers that look mixed, the same for each seed.
func numbers(seed int) func() uint32 {
	n := uint64(seed)*2 + 1
	return func() uint32 {
		n = n*6364136223846793005 + 1442695040888963407
		return uint32(n >> 32)
	}
}

// number is the form of a number, and variable that of a variable that is there, both written out.
func number(c uint32) form {
	return form{C: c}
}

func variable(i int) form {
	return multiple(i, 1)
}

func multiple(i int, k uint32) form {
	f := form{}
	f.Coef[i] = k
	return f
}

// with answers a form in which one component is another one: the constant, at -1, or a coefficient.
func with(f form, at int, n uint32) form {
	if at < 0 {
		f.C = n
	} else {
		f.Coef[at] = n
	}
	return f
}

// each makes a form component by component; the constant is the one at -1.
func each(component func(at int) uint32) form {
	f := form{C: component(-1)}
	for i := range vars {
		f.Coef[i] = component(i)
	}
	return f
}

func componentOf(f form, at int) uint32 {
	if at < 0 {
		return f.C
	}
	return f.Coef[at]
}

// modular works out a component in 64 bits.
func modular(n uint64) uint32 {
	return uint32(n % modulus)
}

func sum(f, g form) form {
	return each(func(at int) uint32 { return modular(uint64(componentOf(f, at)) + uint64(componentOf(g, at))) })
}

func difference(f, g form) form {
	return each(func(at int) uint32 { return modular(uint64(componentOf(f, at)) + modulus - uint64(componentOf(g, at))) })
}

func product(f form, k uint32) form {
	return each(func(at int) uint32 { return modular(uint64(componentOf(f, at)) * uint64(k)) })
}

// value works a form's value out from the last variable to the first, in 64 bits.
func value(f form, v assignment) uint32 {
	n := uint64(0)
	for i := vars - 1; i >= 0; i-- {
		n = (n + uint64(v[i])*uint64(f.Coef[i])%modulus) % modulus
	}
	return modular(n + uint64(f.C))
}

// one answers the assignment in which a variable is n, and all others are 0.
func one(i int, n uint32) assignment {
	v := assignment{}
	v[i] = n
	return v
}

func all(n uint32) assignment {
	v := assignment{}
	for i := range v {
		v[i] = n
	}
	return v
}

// mixed answers an assignment of which about one number in so many is not 0.
func mixed(next func() uint32, so uint32) assignment {
	v := assignment{}
	for i := range v {
		if n := next(); n>>8%so == 0 {
			v[i] = next()
		}
	}
	return v
}

// forms are forms of each kind: constants, one component alone, all components, and mixed ones.
func forms() []form {
	var out []form
	for _, n := range edges {
		out = append(out, number(n), form{C: n, Coef: all(n)}, form{C: ^n, Coef: all(n)})
	}
	for i := range vars {
		for _, n := range []uint32{1, 2, 0x80000000, 0xffffffff} {
			out = append(out, multiple(i, n))
		}
		out = append(out, with(variable(i), -1, uint32(i)+1), sum(variable(i), variable((i+1)%vars)))
	}
	next := numbers(1)
	for range 40 {
		out = append(out, form{C: next(), Coef: mixed(next, 1)}, form{C: next(), Coef: mixed(next, 8)}, form{Coef: mixed(next, 8)})
	}
	return out
}

// assignments are such as tell the variables apart, and edges.
func assignments() []assignment {
	var out []assignment
	for _, n := range edges {
		out = append(out, all(n), one(0, n), one(1, n), one(vars-1, n))
	}
	for i := range vars {
		out = append(out, one(i, 1), one(i, 0x80000000), one(i, 0xdeadbeef))
	}
	next := numbers(2)
	for range 20 {
		out = append(out, mixed(next, 1), mixed(next, 6))
	}
	return out
}

// pairs calls f with all pairs of forms.
func pairs(f func(f, g form)) {
	list := forms()
	for _, x := range list {
		for _, y := range list {
			f(x, y)
		}
	}
}

func wantForm(t *testing.T, what string, got, want form) {
	t.Helper()
	if got != want {
		t.Errorf("%s: %+v; want %+v", what, got, want)
	}
}

func wantEval(t *testing.T, f form, v assignment, want uint32) {
	t.Helper()
	if got := affine.Eval(f, v); got != want {
		t.Errorf("Eval(%+v, %v): %#x; want %#x", f, v, got, want)
	}
}

// wantConstant: a form is always c; or it has a variable, and nothing is told of c.
func wantConstant(t *testing.T, f form, c uint32, is bool) {
	t.Helper()
	if got, ok := affine.Constant(f); got != c || ok != is {
		t.Errorf("Constant(%+v): %#x, %v; want %#x, %v", f, got, ok, c, is)
	}
}

func wantSingle(t *testing.T, f form, i int, is bool) {
	t.Helper()
	if got, ok := affine.Single(f); got != i || ok != is {
		t.Errorf("Single(%+v): %d, %v; want %d, %v", f, got, ok, i, is)
	}
}

func wantApart(t *testing.T, f, g form, v assignment, differ bool) {
	t.Helper()
	for _, x := range [][2]form{{f, g}, {g, f}} {
		if got, ok := affine.Apart(x[0], x[1]); got != v || ok != differ {
			t.Errorf("Apart(%+v, %+v): %v, %v; want %v, %v", x[0], x[1], got, ok, v, differ)
		}
	}
	if (value(f, v) != value(g, v)) != differ || (affine.Eval(f, v) != affine.Eval(g, v)) != differ {
		t.Errorf("%+v and %+v: the values for %v are %#x and %#x", f, g, v, affine.Eval(f, v), affine.Eval(g, v))
	}
}

// The variables are A, X, the cells and the record's words, and ErrArg is 1.
func TestNumbers(t *testing.T) {
	if affine.Vars != vars || vars != 2+api.Cells+api.Words {
		t.Errorf("Vars: %d", affine.Vars)
	}
	if api.OK != 0 || api.ErrArg != 1 {
		t.Errorf("OK: %d; ErrArg: %d", api.OK, api.ErrArg)
	}
}

// The examples of the chapter.
func TestExamples(t *testing.T) {
	a, _ := affine.Var(0)
	x, _ := affine.Var(1)
	wantForm(t, "A + X - A", affine.Sub(affine.Add(a, x), a), x)
	wantSingle(t, affine.Sub(affine.Add(a, x), a), 1, true)
	wantApart(t, affine.Mul(a, 3), a, one(0, 1), true)
}

// P14.1: Const.
func TestConst(t *testing.T) {
	next := numbers(3)
	for range 1000 {
		n := next()
		wantForm(t, "Const", affine.Const(n), form{C: n})
	}
	for _, n := range edges {
		wantForm(t, "Const", affine.Const(n), form{C: n})
	}
}

// P14.1: Var, for each variable.
func TestVar(t *testing.T) {
	for i := range vars {
		f, e := affine.Var(i)
		if e != api.OK {
			t.Errorf("Var(%d): %d", i, e)
		}
		wantForm(t, "Var", f, form{Coef: one(i, 1)})
		for _, v := range assignments() {
			wantEval(t, f, v, v[i])
		}
	}
}

// P14.1, P0 (R1, R2): there are no other variables, and beside ErrArg the form is zero.
func TestNoVar(t *testing.T) {
	none := slices.Clone(noVars)
	for i := range 5000 {
		none = append(none, -1-i, vars+i)
	}
	for _, i := range none {
		if f, e := affine.Var(i); f != (form{}) || e != api.ErrArg {
			t.Errorf("Var(%d): %+v, %d; want the zero form and ErrArg", i, f, e)
		}
	}
}

// P14.1: sums and differences, where they wrap round.
func TestSumsExamples(t *testing.T) {
	for _, c := range []struct{ a, b, sum, difference uint32 }{
		{0, 0, 0, 0},
		{7, 3, 10, 4},
		{3, 7, 10, 0xfffffffc},
		{0, 1, 1, 0xffffffff},
		{0xffffffff, 1, 0, 0xfffffffe},
		{1, 0xffffffff, 0, 2},
		{0xffffffff, 0xffffffff, 0xfffffffe, 0},
		{0x80000000, 0x80000000, 0, 0},
		{0, 0x80000000, 0x80000000, 0x80000000},
		{0x7fffffff, 0x80000001, 0, 0xfffffffe},
	} {
		for at := -1; at < vars; at++ {
			f, g := with(form{}, at, c.a), with(form{}, at, c.b)
			wantForm(t, "Add", affine.Add(f, g), with(form{}, at, c.sum))
			wantForm(t, "Sub", affine.Sub(f, g), with(form{}, at, c.difference))
		}
	}
}

// P14.1: multiples, where they wrap round.
func TestMulExamples(t *testing.T) {
	for _, c := range []struct{ a, k, want uint32 }{
		{5, 0, 0},
		{5, 1, 5},
		{0, 0xffffffff, 0},
		{6, 7, 42},
		{1, 0xffffffff, 0xffffffff},
		{5, 0xffffffff, 0xfffffffb},
		{0xffffffff, 0xffffffff, 1},
		{0x80000000, 2, 0},
		{0x80000000, 3, 0x80000000},
		{0x10000, 0x10000, 0},
		{0x10001, 0x10000, 0x10000},
		{0xaaaaaaab, 3, 1},
	} {
		for at := -1; at < vars; at++ {
			wantForm(t, "Mul", affine.Mul(with(form{}, at, c.a), c.k), with(form{}, at, c.want))
		}
	}
}

// P14.1: each component of a sum is that of both forms' components in this place, whichever these are.
func TestComponentsAreApart(t *testing.T) {
	for at := -1; at < vars; at++ {
		for other := -1; other < vars; other++ {
			if at == other {
				continue
			}
			f, g := with(form{}, at, 5), with(form{}, other, 9)
			wantForm(t, "Add", affine.Add(f, g), with(f, other, 9))
			wantForm(t, "Sub", affine.Sub(f, g), with(f, other, 0xfffffff7))
			wantForm(t, "Mul", affine.Mul(with(f, other, 9), 3), with(with(form{}, at, 15), other, 27))
		}
	}
}

// P14.1: sums, differences and multiples of all forms.
func TestAllPairs(t *testing.T) {
	pairs(func(f, g form) {
		wantForm(t, "Add", affine.Add(f, g), sum(f, g))
		wantForm(t, "Sub", affine.Sub(f, g), difference(f, g))
	})
	for _, f := range forms() {
		for _, k := range edges {
			wantForm(t, "Mul", affine.Mul(f, k), product(f, k))
		}
	}
}

// P14.1: a value is the constant and what each variable adds.
func TestEvalExamples(t *testing.T) {
	f := form{C: 7}
	f.Coef[0], f.Coef[1], f.Coef[2], f.Coef[17], f.Coef[18], f.Coef[33] = 0xffffffff, 3, 0x80000000, 10, 100, 1000
	for _, c := range []struct {
		v    assignment
		want uint32
	}{
		{assignment{}, 7},
		{one(0, 9), 0xfffffffe},
		{one(0, 7), 0},
		{one(1, 0x55555555), 6},
		{one(2, 1), 0x80000007},
		{one(2, 2), 7},
		{one(3, 0xffffffff), 7},
		{one(17, 5), 57},
		{one(18, 5), 507},
		{one(33, 5), 5007},
		{all(1), 0x8000045f},
		{assignment{0: 1, 1: 2, 17: 3, 18: 4, 33: 5}, 5442},
	} {
		wantEval(t, f, c.v, c.want)
	}
}

// P14.1: values of all forms, for assignments of each kind.
func TestEval(t *testing.T) {
	list := assignments()
	for _, f := range forms() {
		for _, v := range list {
			wantEval(t, f, v, value(f, v))
		}
	}
	for i := range vars {
		for _, k := range edges {
			for _, n := range edges {
				wantEval(t, multiple(i, k), one(i, n), modular(uint64(k)*uint64(n)))
			}
		}
	}
}

// P14.1: a form without variables is a constant, also where they have gone.
func TestConstant(t *testing.T) {
	for _, n := range edges {
		wantConstant(t, number(n), n, true)
		wantConstant(t, affine.Const(n), n, true)
		for i := range vars {
			f := with(variable(i), -1, n)
			wantConstant(t, affine.Sub(f, variable(i)), n, true)
			wantConstant(t, affine.Mul(with(multiple(i, 0x80000000), -1, n), 2), modular(uint64(n)*2), true)
		}
	}
	for _, f := range forms() {
		wantConstant(t, affine.Sub(f, f), 0, true)
		wantConstant(t, affine.Mul(f, 0), 0, true)
	}
}

// P14.1: one coefficient that is not 0 is enough, and then the number is 0.
func TestNoConstant(t *testing.T) {
	for i := range vars {
		for _, k := range edges {
			if k == 0 {
				continue
			}
			for _, c := range edges {
				wantConstant(t, with(multiple(i, k), -1, c), 0, false)
			}
		}
		wantConstant(t, with(form{C: 3, Coef: all(5)}, i, 0), 0, false)
	}
	for _, k := range edges[1:] {
		wantConstant(t, form{C: k, Coef: all(k)}, 0, false)
	}
	// Coefficients that add up to 0 do not make a constant.
	wantConstant(t, form{C: 4, Coef: assignment{0: 1, 33: 0xffffffff}}, 0, false)
	wantConstant(t, form{C: 4, Coef: assignment{5: 0x80000000, 6: 0x80000000}}, 0, false)
}

// P14.1: each variable, also where a sum comes to it.
func TestSingle(t *testing.T) {
	for i := range vars {
		wantSingle(t, variable(i), i, true)
		wantSingle(t, affine.Mul(multiple(i, 0xaaaaaaab), 3), i, true)
		for _, f := range forms() {
			wantSingle(t, affine.Sub(affine.Add(variable(i), f), f), i, true)
		}
	}
}

// P14.1: nothing else is a variable, and then the number is 0.
func TestNoSingle(t *testing.T) {
	for _, c := range edges {
		wantSingle(t, number(c), 0, false)
		for i := range vars {
			if c != 0 {
				wantSingle(t, with(variable(i), -1, c), 0, false)
			}
			if c != 1 {
				wantSingle(t, multiple(i, c), 0, false)
			}
			for other := range vars {
				if other != i && c != 0 {
					wantSingle(t, with(variable(i), other, c), 0, false)
				}
			}
		}
		wantSingle(t, form{Coef: all(c)}, 0, false)
	}
	wantSingle(t, form{C: 1}, 0, false)
	wantSingle(t, form{Coef: assignment{3: 2, 4: 0xffffffff}}, 0, false)
	wantSingle(t, form{Coef: assignment{3: 1, 4: 1, 5: 0xffffffff}}, 0, false)
}

// P14.2: a form and itself.
func TestApartEqual(t *testing.T) {
	for _, f := range forms() {
		wantApart(t, f, f, assignment{}, false)
		wantApart(t, f, affine.Sub(affine.Add(f, variable(4)), variable(4)), assignment{}, false)
	}
}

// P14.2: constants that differ are what tells, whichever coefficients do too.
func TestApartConstants(t *testing.T) {
	for _, f := range forms() {
		for _, n := range edges {
			if n == f.C {
				continue
			}
			g := with(f, -1, n)
			wantApart(t, f, g, assignment{}, true)
			for i := range vars {
				wantApart(t, f, with(g, i, ^f.Coef[i]), assignment{}, true)
			}
		}
	}
}

// P14.2: else the first variable whose coefficients differ is.
func TestApartCoefficients(t *testing.T) {
	for _, f := range forms()[:100] {
		for i := range vars {
			for _, change := range []uint32{1, 2, 0x80000000, 0xffffffff} {
				g := with(f, i, f.Coef[i]^change)
				wantApart(t, f, g, one(i, 1), true)
				for later := i + 1; later < vars; later++ {
					wantApart(t, f, with(g, later, ^f.Coef[later]), one(i, 1), true)
				}
			}
		}
	}
}

// P14.2: all pairs of forms.
func TestApartPairs(t *testing.T) {
	pairs(func(f, g form) {
		for at := -1; at < vars; at++ {
			if componentOf(f, at) == componentOf(g, at) {
				continue
			}
			if at < 0 {
				wantApart(t, f, g, assignment{}, true)
			} else {
				wantApart(t, f, g, one(at, 1), true)
			}
			return
		}
		wantApart(t, f, g, assignment{}, false)
	})
}

// P14.3: values go with sums, differences and multiples.
func TestEvalConsequences(t *testing.T) {
	next := numbers(4)
	check := func(what string, got form, v assignment, want uint64) {
		t.Helper()
		if n := affine.Eval(got, v); n != modular(want) {
			t.Errorf("Eval of the %s %+v for %v: %#x; want %#x", what, got, v, n, modular(want))
		}
	}
	pairs(func(f, g form) {
		v, k := mixed(next, 1+next()>>8%4), next()
		x, y := affine.Eval(f, v), affine.Eval(g, v)
		check("sum", affine.Add(f, g), v, uint64(x)+uint64(y))
		check("difference", affine.Sub(f, g), v, uint64(x)+modulus-uint64(y))
		check("multiple", affine.Mul(f, k), v, uint64(x)*uint64(k))
	})
}

// P14.4: a form is told by its values, of which the one for zeros and those for each variable alone are enough.
func TestValuesTellForms(t *testing.T) {
	for _, f := range forms() {
		c := affine.Eval(f, assignment{})
		rebuilt := affine.Const(c)
		for i := range vars {
			x, _ := affine.Var(i)
			rebuilt = affine.Add(rebuilt, affine.Mul(x, affine.Eval(f, one(i, 1))-c))
		}
		wantForm(t, "the form with these values", rebuilt, f)
	}
}

// P14.4: forms are equal just if no assignment tells them apart.
func TestExact(t *testing.T) {
	list := assignments()
	pairs(func(f, g form) {
		apart := slices.ContainsFunc(list, func(v assignment) bool { return affine.Eval(f, v) != affine.Eval(g, v) })
		v, differ := affine.Apart(f, g)
		if apart && !differ || differ != (f != g) || differ != (affine.Eval(f, v) != affine.Eval(g, v)) {
			t.Errorf("%+v and %+v: %v, but Apart answers %v, %v", f, g, apart, v, differ)
		}
	})
}

// P0 (R3): what comes in stays as it is, and what has come out does not change with it.
func TestArgumentsAreLeft(t *testing.T) {
	f, g := forms()[100], form{C: 3, Coef: all(9)}
	oldF, oldG, v := f, g, all(5)
	results := []form{affine.Add(f, g), affine.Sub(f, g), affine.Mul(f, 3)}
	kept := slices.Clone(results)
	affine.Eval(f, v)
	affine.Constant(f)
	affine.Single(f)
	apart, _ := affine.Apart(f, g)
	if f != oldF || g != oldG || v != all(5) {
		t.Errorf("%+v, %+v, %v: before %+v, %+v", f, g, v, oldF, oldG)
	}
	f.Coef[0], g.Coef[1], v[2] = ^f.Coef[0], ^g.Coef[1], 6
	apart[3] = 1
	if !slices.Equal(results, kept) {
		t.Errorf("%+v; before %+v", results, kept)
	}
	if again, _ := affine.Apart(oldF, oldG); again == apart {
		t.Errorf("Apart: %v", again)
	}
}

// P0 (R4): a call's result does not hang on the calls before it.
func TestCallsAreRepeatable(t *testing.T) {
	type answer struct {
		add, sub, mul, variable form
		errno                   api.Errno
		value, constant         uint32
		single                  int
		isConstant, isSingle    bool
		apart                   assignment
		differ                  bool
	}
	ask := func(f, g form) answer {
		var x answer
		x.add, x.sub, x.mul = affine.Add(f, g), affine.Sub(f, g), affine.Mul(f, g.C)
		x.variable, x.errno = affine.Var(int(int32(f.C)) % 40)
		x.value = affine.Eval(f, g.Coef)
		x.constant, x.isConstant = affine.Constant(f)
		x.single, x.isSingle = affine.Single(f)
		x.apart, x.differ = affine.Apart(f, g)
		return x
	}
	var first []answer
	pairs(func(f, g form) { first = append(first, ask(f, g)) })
	at := 0
	pairs(func(f, g form) {
		if x := ask(f, g); x != first[at] {
			t.Fatalf("%+v, %+v: %+v; before %+v", f, g, x, first[at])
		}
		at++
	})
}
