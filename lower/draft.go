package lower

import (
	"math"

	"hurdle/api"
	"hurdle/code"
	"hurdle/cond"
	"hurdle/data"
)

// A draft is code that grows. After its first error it stays as it is, and labels mean nothing any more: who uses it may
// go on, and ask for the result only at the end.
type draft struct {
	code  []api.Ins
	errno api.Errno
}

// result answers the code, and its front's label; beside an error, the code that is to be there instead, and 0.
func (d *draft) result(instead []api.Ins) ([]api.Ins, int, api.Errno) {
	if d.errno != api.OK {
		return instead, 0, d.errno
	}
	return d.code, len(d.code), api.OK
}

// take takes over what package code made of the draft, and answers the label.
func (d *draft) take(c []api.Ins, label int, errno api.Errno) int {
	if d.errno == api.OK {
		d.code, d.errno = c, errno
	}
	return label
}

func (d *draft) add(x api.Ins) int {
	return d.take(code.Add(d.code, x))
}

// ahead puts an instruction after which the code goes on at a label.
func (d *draft) ahead(x api.Ins, label int) int {
	d.take(code.Jump(d.code, label))
	return d.add(x)
}

func (d *draft) branch(op int, k uint32, t, f int) int {
	return d.take(code.Branch(d.code, op, k, t, f))
}

// load is the instruction that makes A a word of the record.
func load(at uint32) api.Ins {
	return api.Ins{Op: api.LdAbs, K: at}
}

// A half is what a condition says of one word of its argument.
type half struct {
	at, mask, value uint32
}

// halves answers those of a valid condition.
func halves(x api.Cond) (low, high half) {
	const wordBits = 32
	low = half{data.Low(x.Arg), uint32(x.Mask), uint32(x.Value)}
	high = half{data.High(x.Arg), uint32(x.Mask >> wordBits), uint32(x.Value >> wordBits)}
	return low, high
}

// ties: is a half equal to its value for each record? Then the other half alone decides.
func (h half) ties() bool {
	return h.mask == 0 && h.value == 0
}

// masked puts what makes A the bits of a half that count, and goes on at a label.
func (d *draft) masked(h half, label int) int {
	if h.mask != math.MaxUint32 {
		label = d.ahead(api.Ins{Op: api.AndK, K: h.mask}, label)
	}
	return d.ahead(load(h.at), label)
}

// compare goes on at t if a half alone compares to its value as the branch says, and else at f.
func (d *draft) compare(op int, h half, t, f int) int {
	return d.masked(h, d.branch(op, h.value, t, f))
}

// test goes on at t for the records for which a valid condition holds, and else at f. The more significant half decides,
// unless it is equal to its value.
func (d *draft) test(x api.Cond, t, f int) int {
	ops := map[int]int{api.Eq: api.JeqK, api.Gt: api.JgtK, api.Ge: api.JgeK}
	if _, ok := ops[x.Cmp]; !ok { // no branch does that, but one does the opposite
		x, t, f = cond.Not(x), f, t
	}
	op := ops[x.Cmp]
	low, high := halves(x)
	if high.ties() {
		return d.compare(op, low, t, f)
	}
	if low.ties() {
		return d.compare(op, high, t, f)
	}
	equal := d.compare(op, low, t, f)
	differs := f
	if op != api.JeqK {
		differs = d.branch(op, high.value, t, f)
	}
	return d.masked(high, d.branch(api.JeqK, high.value, equal, differs))
}
