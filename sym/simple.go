package sym

import (
	"hurdle/affine"
	"hurdle/api"
	"hurdle/bits"
	"hurdle/word"
)

// commutes: is a kind of arithmetic the same for both orders of its operands?
func commutes(kind int) bool {
	switch kind {
	case api.AddK, api.MulK, api.OrK, api.AndK, api.XorK:
		return true
	}
	return false
}

// counted answers what arithmetic makes of two constants.
func counted(kind int, v, w value) (value, bool) {
	a, ok := v.constant()
	b, too := w.constant()
	if !ok || !too {
		return value{}, false
	}
	c, ok := word.Do(kind, a, b)
	return ofSum(affine.Const(c)), ok
}

// added answers the sum that arithmetic makes of two sums.
func added(kind int, v, w value) (value, bool) {
	switch kind {
	case api.AddK, api.SubK:
		return summed(kind, v, w)
	case api.MulK:
		if c, ok := w.constant(); ok {
			return multiple(v, c)
		}
		if c, ok := v.constant(); ok {
			return multiple(w, c)
		}
	case api.LshK:
		if c, ok := w.constant(); ok {
			times, _ := word.Do(kind, 1, c)
			return multiple(v, times)
		}
	}
	return value{}, false
}

func summed(kind int, v, w value) (value, bool) {
	f, ok := v.asSum()
	g, too := w.asSum()
	if !ok || !too {
		return value{}, false
	}
	if kind == api.SubK {
		return ofSum(affine.Sub(f, g)), true
	}
	return ofSum(affine.Add(f, g)), true
}

// multiple answers a multiple of a sum. One of another value is none, even for 0: that value may have no result.
func multiple(v value, times uint32) (value, bool) {
	f, ok := v.asSum()
	if !ok {
		return value{}, false
	}
	return ofSum(affine.Mul(f, times)), true
}

// joined answers what is done bit by bit with two values that are so made, if that is arithmetic's kind.
func joined(kind int, v, w value) (value, bool) {
	f, ok := v.asBits()
	g, too := w.asBits()
	if !ok || !too {
		return value{}, false
	}
	h, ok := bits.Do(kind, f, g)
	if !ok {
		return value{}, false
	}
	return ofBits(h), true
}

// untouched answers the value that arithmetic leaves as it is, as the other operand is a constant that changes nothing.
func untouched(kind int, v, w value) (value, bool) {
	if c, ok := w.constant(); ok && neutral(kind, c) {
		return v, true
	}
	if c, ok := v.constant(); ok && commutes(kind) && neutral(kind, c) {
		return w, true
	}
	return value{}, false
}

// neutral: does arithmetic with this second operand change nothing?
func neutral(kind int, c uint32) bool {
	switch kind {
	case api.MulK, api.DivK:
		return c == 1
	case api.AndK:
		return c == whole
	case api.LshK, api.RshK:
		// Not all bits of c count; whether 1 stays where it is, tells how far it shifts.
		one, _ := word.Do(api.LshK, 1, c)
		return one == 1
	}
	return c == 0
}
