package sym

import (
	"slices"

	"hurdle/affine"
	"hurdle/api"
	"hurdle/bits"
	"hurdle/word"
)

// What a value is, if not arithmetic, whose kinds are greater.
const (
	sum = -1 - iota
	bitwise
	negation
)

// flips are the numbers whose exclusive or with a variable is a sum as well: what the bits below the highest one carry
// changes no other bit there, and what the highest one carries is lost.
var flips = [...]uint32{0, 1 << 31, 1<<31 - 1, whole}

// value is a sum, if it can be one; else what is done bit by bit, if it can be that; else arithmetic, or a negation.
type value struct {
	kind int
	x, y int         // the operands of arithmetic; that of a negation is x
	form affine.Form // of a sum
	tab  table       // of what is done bit by bit
}

// table is a form of package bits, as arrays: so a map can hold it against others.
type table struct {
	count int // of variables
	vars  [bits.Most]int
	words [1 << bits.Most]uint32
}

func ofSum(f affine.Form) value {
	return value{kind: sum, form: f}
}

// ofBits answers the value of a bitwise form. One that is a sum, too, is written as that.
func ofBits(f bits.Form) value {
	if g, ok := sumOf(f); ok {
		return ofSum(g)
	}
	v := value{kind: bitwise, tab: table{count: len(f.Vars)}}
	copy(v.tab.vars[:], f.Vars)
	copy(v.tab.words[:], f.Tab)
	return v
}

// sumOf answers the sum that a bitwise form is; false, if it is none, as those of several variables are: such a sum has bits
// that hang on lower ones.
func sumOf(f bits.Form) (affine.Form, bool) {
	first := f.Tab[0]
	if len(f.Vars) == 0 {
		return affine.Const(first), true
	}
	if len(f.Vars) > 1 || f.Tab[1] != first^whole || !slices.Contains(flips[:], first) {
		return affine.Form{}, false
	}
	x, _ := affine.Var(f.Vars[0])
	return flipped(x, first), true
}

// flipped answers the sum that is the exclusive or of f and one of the flips, if f is a variable. It takes itself back.
func flipped(f affine.Form, flip uint32) affine.Form {
	if flip&1 == 1 {
		return affine.Sub(affine.Const(flip), f)
	}
	return affine.Add(affine.Const(flip), f)
}

// bitsOf answers the bitwise form that a sum is; false, if it is none.
func bitsOf(f affine.Form) (bits.Form, bool) {
	if c, ok := affine.Constant(f); ok {
		return bits.Const(c), true
	}
	for _, flip := range flips {
		if i, ok := affine.Single(flipped(f, flip)); ok {
			x, _ := bits.Var(i)
			return bits.Do(api.XorK, x, bits.Const(flip))
		}
	}
	return bits.Form{}, false
}

// asSum answers a value's sum; false, if it is none.
func (v value) asSum() (affine.Form, bool) {
	return v.form, v.kind == sum
}

// asBits answers a value's bitwise form; false, if it has none.
func (v value) asBits() (bits.Form, bool) {
	switch v.kind {
	case sum:
		return bitsOf(v.form)
	case bitwise:
		count := v.tab.count
		return bits.Form{Vars: v.tab.vars[:count], Tab: v.tab.words[:1<<count]}, true
	}
	return bits.Form{}, false
}

// constant answers the number that a value always is; false, if it isn't known to be one.
func (v value) constant() (uint32, bool) {
	if v.kind != sum {
		return 0, false
	}
	return affine.Constant(v.form)
}

// operands answers the numbers of the values from which one is made.
func (v value) operands() []int {
	switch v.kind {
	case sum, bitwise:
		return nil
	case negation:
		return []int{v.x}
	}
	return []int{v.x, v.y}
}

// result answers a value's result, where those of its operands are known; false, if it has none.
func (v value) result(results map[int]uint32, assigned [affine.Vars]uint32) (uint32, bool) {
	switch v.kind {
	case sum:
		return affine.Eval(v.form, assigned), true
	case bitwise:
		f, _ := v.asBits()
		return bits.Eval(f, assigned)
	case negation:
		return word.Neg(results[v.x]), true
	}
	return word.Do(v.kind, results[v.x], results[v.y])
}

// apart answers an assignment that tells two values apart, if both are sums, or both are bitwise; otherwise false.
func apart(v, w value) ([affine.Vars]uint32, bool) {
	f, ok := v.asSum()
	g, too := w.asSum()
	if ok && too {
		return affine.Apart(f, g)
	}
	p, ok := v.asBits()
	q, too := w.asBits()
	if ok && too {
		return bits.Apart(p, q)
	}
	return [affine.Vars]uint32{}, false
}
