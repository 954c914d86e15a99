package lower_test

import (
	"fmt"
	"math"
	"math/bits"
	"slices"
	"testing"

	"hurdle/api"
	"hurdle/check"
	"hurdle/codec"
	"hurdle/denote"
	"hurdle/ins"
	"hurdle/lower"
	"hurdle/policy"
	"hurdle/run"
)

// The limits that the document names.
const (
	mostIns   = 4096
	mostRules = 64
	mostConds = 4
	mostFront = 16 // instructions that a condition may take
	args      = 6
	cmps      = 6
)

const (
	x64 = 0xc000003e
	x86 = 0x40000003
	a64 = 0xc00000b7
)

const all = math.MaxUint64

var (
	// actions are some of each kind.
	actions = []uint32{0, 0x30000, 0x50000, 0x50001, 0x50fff, 0x7ffc0000, 0x7fff0000}

	// noActions are numbers beside those of actions, or that would be an action's in fewer bits.
	noActions = []uint32{1, 0xfff, 0x2ffff, 0x30001, 0x4ffff, 0x51000, 0x7ffc0001, 0x7ffeffff, 0x7fff0001, 0x80000000, 0xffffffff}

	// noConds are conditions that are not valid; most would hold for any record if they were cut to a valid one.
	noConds = []api.Cond{{Arg: -1}, {Arg: 6}, {Arg: 9}, {Arg: 256}, {Cmp: -1}, {Cmp: 6}, {Cmp: 256}, {Arg: math.MinInt}, {Cmp: math.MinInt}, {Arg: math.MaxInt, Cmp: math.MaxInt}, {Arg: 1 << 32}, {Cmp: 1 << 32}, {Arg: -6, Cmp: -6}}

	// edges are numbers at which a bit, a half or a sign may go wrong.
	edges = []uint64{0, 1, 2, 5, 0xff, 0x105, 0x7fffffff, 0x80000000, 0xfffffffe, 0xffffffff, 0x100000000, 0x100000001, 0x200000001, 0x500000005, 0xfffffffeffffffff, 0xffffffff00000000, 0x7fffffffffffffff, 0x8000000000000000, 0xfffffffffffffffe, all}
	masks = []uint64{0, 1, 0x80, 0xff, 0x7fffffff, 0x80000000, 0xffffffff, 0x100000000, 0x100000001, 0xff000000ff, 0x7fffffff00000000, 0xffffffff00000000, 0x8000000000000000, 0xf0f0f0f0f0f0f0f0, 0xffffffff00000001, 0x1ffffffff, 0xfffffffffffffffe, all}
)

// numbers answers numbers that look mixed, the same for each seed.
func numbers(seed int) func(below int) int {
	n := uint64(seed)*2 + 1
	return func(below int) int {
		n = n*6364136223846793005 + 1442695040888963407
		return int(n >> 33 % uint64(below))
	}
}

// The chapters, read in another way than the program does.

// holds subtracts: what is left, and what is borrowed, tell how two numbers compare.
func holds(c api.Cond, d api.Data) bool {
	left, less := bits.Sub64(d.Args[c.Arg]&c.Mask, c.Value, 0)
	sign := int(less) // 0 equal, 1 less, 2 greater
	if less == 0 && left != 0 {
		sign = 2
	}
	return [][3]bool{{true, false, false}, {false, true, true}, {false, true, false}, {true, true, false}, {false, false, true}, {true, false, true}}[c.Cmp][sign]
}

// judge goes from the last rule to the first: each that matches replaces what is known.
func judge(p api.Policy, d api.Data) uint32 {
	action := p.Default
	for i := len(p.Rules) - 1; i >= 0; i-- {
		x := p.Rules[i]
		if x.Arch == d.Arch && x.Nr == d.Nr && !slices.ContainsFunc(x.Conds, func(c api.Cond) bool { return !holds(c, d) }) {
			action = x.Action
		}
	}
	return action
}

// most is how many instructions the filter of a policy has at most.
func most(p api.Policy) int {
	if len(p.Rules) == 0 {
		return 1
	}
	var archs []uint32
	var calls [][2]uint32
	sum := 8
	for _, x := range p.Rules {
		archs = append(archs, x.Arch)
		calls = append(calls, [2]uint32{x.Arch, x.Nr})
		sum += 3 + 16*len(x.Conds)
	}
	slices.Sort(archs)
	slices.SortFunc(calls, func(a, b [2]uint32) int { return slices.Compare(a[:], b[:]) })
	return sum + 4*len(slices.Compact(archs)) + 8*len(slices.Compact(calls))
}

// walk follows code from its front to the first of its last n instructions that it comes to, and answers that one's
// label, and the state there.
func walk(x []api.Ins, n int, s api.State, d api.Data) (int, api.State) {
	at := 0
	for at < len(x)-n {
		i := x[at]
		at++
		switch {
		case i.Op == api.Ja:
			at += int(i.K)
		case ins.Branch(i) && run.Takes(s, i):
			at += i.Jt
		case ins.Branch(i):
			at += i.Jf
		case ins.Ends(i):
			return 0, s
		default:
			s, _ = run.Step(s, i, d)
		}
	}
	return len(x) - at, s
}

// Inputs.

// some answers n instructions, each of which differs from those beside it. What they are doesn't matter to Test.
func some(n int) []api.Ins {
	c := make([]api.Ins, n)
	for i := range c {
		c[i] = api.Ins{Op: i - 7, Jt: i * 3, Jf: -i, K: uint32(i) * 0x01000193}
	}
	return c
}

// rets answers n instructions that end a run, each with another result.
func rets(n int) []api.Ins {
	c := make([]api.Ins, n)
	for i := range c {
		c[i] = api.Ins{Op: api.RetK, K: uint32(n - i)}
	}
	return c
}

// dirty is a state that Test's code may not rely on.
func dirty() api.State {
	s := api.State{A: 0xdeadbeef, X: 0x12345678}
	for i := range s.M {
		s.M[i] = 0x01010101 * uint32(i+1)
	}
	return s
}

// record answers one all other arguments of which differ from value.
func record(arg int, value uint64) api.Data {
	d := api.Data{Nr: ^uint32(value), Arch: uint32(value >> 7), Ip: ^value}
	for i := range d.Args {
		d.Args[i] = ^value + uint64(i)<<32
	}
	d.Args[arg] = value
	return d
}

// around answers arguments for which a condition just holds, or just doesn't.
func around(c api.Cond) []uint64 {
	v, m := c.Value, c.Mask
	values := []uint64{v, v + 1, v - 1, v + 1<<32, v - 1<<32, v<<32 | v>>32, v &^ 0xffffffff, v & 0xffffffff, v | 0xffffffff, v | 0xffffffff<<32}
	for _, a := range slices.Clone(values) {
		values = append(values, a&m, a&m|^m, a^(m&-m), a^m)
	}
	return values
}

// someCond answers any condition, often one that some arguments meet.
func someCond(next func(int) int) api.Cond {
	c := api.Cond{Arg: next(args), Cmp: next(cmps), Mask: masks[next(len(masks))], Value: edges[next(len(edges))]}
	if next(3) > 0 {
		c.Value &= c.Mask
	}
	return c
}

// somePolicy answers a policy of n rules for few system calls, so that many are for the same one.
func somePolicy(next func(int) int, n int) api.Policy {
	archs := []uint32{x64, a64, x86, 0, 1, math.MaxUint32}[:1+next(6)]
	nrs := []uint32{1, 0, 2, 60, x64, 0x80000000, math.MaxUint32}[:1+next(7)]
	p := api.Policy{Default: actions[next(len(actions))]}
	for range n {
		x := api.Rule{Arch: archs[next(len(archs))], Nr: nrs[next(len(nrs))], Action: actions[next(len(actions))]}
		for range next(mostConds+2) % (mostConds + 1) {
			x.Conds = append(x.Conds, someCond(next))
		}
		p.Rules = append(p.Rules, x)
	}
	return p
}

// recordsFor answers records that the rules of a policy match, just don't match, or don't at all.
func recordsFor(next func(int) int, p api.Policy) []api.Data {
	ds := []api.Data{{}, {Nr: math.MaxUint32, Arch: math.MaxUint32, Ip: all, Args: [6]uint64{all, all, all, all, all, all}}}
	for _, x := range p.Rules {
		for try := range 6 {
			d := api.Data{Arch: x.Arch, Nr: x.Nr, Ip: edges[next(len(edges))]}
			for i := range d.Args {
				d.Args[i] = edges[next(len(edges))]
			}
			for i, c := range x.Conds {
				for range 20 { // until it holds; but one of them, in turn, is left as it comes
					values := around(c)
					d.Args[c.Arg] = values[next(len(values))]
					if holds(c, d) || i == try {
						break
					}
				}
			}
			ds = append(ds, d)
		}
		d := ds[len(ds)-1]
		ds = append(ds, d, d, d)
		ds[len(ds)-3].Nr += 1
		ds[len(ds)-2].Arch ^= 0x80000000
		ds[len(ds)-1].Nr, ds[len(ds)-1].Arch = d.Arch, d.Nr
	}
	return ds
}

// What the calls must answer.

// wantFilter: Lower answers a filter that implements p, as short as the chapter says. The filter is answered.
func wantFilter(t *testing.T, p api.Policy, ds []api.Data) []api.Ins {
	t.Helper()
	f, e := lower.Lower(p)
	if e != api.OK {
		t.Fatalf("Lower(%s): error %d", brief(p), e)
	}
	if at, e := check.Check(f); e != api.OK {
		t.Fatalf("Lower(%s): not sound at %d, error %d", brief(p), at, e)
	}
	if _, e := codec.Encode(f); e != api.OK {
		t.Errorf("Lower(%s): has no encoding, error %d", brief(p), e)
	}
	if len(f) > most(p) {
		t.Errorf("Lower(%s): %d instructions; at most %d", brief(p), len(f), most(p))
	}
	for _, d := range ds {
		want := judge(p, d)
		if w, e := denote.Judge(p, d); w != want || e != api.OK {
			t.Fatalf("Judge(%s, %+v): %#x, %d; want %#x", brief(p), d, w, e, want)
		}
		if v, _, e := run.Run(f, d); v != want || e != api.OK {
			t.Fatalf("the filter of %s, for %+v: %#x, %d; want %#x", brief(p), d, v, e, want)
		}
	}
	return f
}

// wantTest: Test extends c, and its code goes on where it must. The number of instructions that it takes is answered.
func wantTest(t *testing.T, c []api.Ins, x api.Cond, to, or int, ds ...api.Data) int {
	t.Helper()
	got, l, e := lower.Test(c, x, to, or)
	n := len(got) - len(c)
	if e != api.OK || l != len(got) || n < 0 || n > mostFront || !slices.Equal(got[n:], c) {
		t.Fatalf("Test(%d, %+v, %d, %d): %d instructions, label %d, error %d", len(c), x, to, or, len(got), l, e)
	}
	if at, e := check.Check(slices.Concat(got[:n], rets(len(c)))); e != api.OK {
		t.Fatalf("Test(%d, %+v, %d, %d): not sound at %d, error %d: %+v", len(c), x, to, or, at, e, got[:n])
	}
	for _, d := range ds {
		want := or
		if holds(x, d) {
			want = to
		}
		before := dirty()
		label, s := walk(got, len(c), before, d)
		s.A = before.A
		if label != want || s != before {
			t.Fatalf("Test(%d, %+v, %d, %d), for %+v: goes to %d, in the state %+v; want %d: %+v", len(c), x, to, or, d, label, s, want, got[:n])
		}
	}
	return n
}

// wantFault: Test answers an error, c as it was, and 0.
func wantFault(t *testing.T, c []api.Ins, x api.Cond, to, or int, want api.Errno) {
	t.Helper()
	before := slices.Clone(c)
	got, l, e := lower.Test(c, x, to, or)
	if e != want || l != 0 || !slices.Equal(got, before) || !slices.Equal(c, before) {
		t.Errorf("Test(%d, %+v, %d, %d): %d instructions, label %d, error %d; want error %d", len(c), x, to, or, len(got), l, e, want)
	}
}

// wantArg: a policy that is not valid has no filter.
func wantArg(t *testing.T, p api.Policy) {
	t.Helper()
	if f, e := lower.Lower(p); len(f) != 0 || e != api.ErrArg {
		t.Errorf("Lower(%s): %d instructions, error %d; want none, ErrArg", brief(p), len(f), e)
	}
}

// brief keeps the messages about long policies short.
func brief(p api.Policy) string {
	return fmt.Sprintf("%d: %.300s", len(p.Rules), fmt.Sprintf("%+v", p))
}

func parse(t *testing.T, s string) api.Policy {
	t.Helper()
	p, at, e := policy.Parse(s)
	if e != api.OK {
		t.Fatalf("%q: %d at %d", s, e, at)
	}
	return p
}

// P13.1: the example, and all other policies without rules.
func TestNoRules(t *testing.T) {
	for _, v := range actions {
		for _, rules := range [][]api.Rule{nil, {}} {
			f, e := lower.Lower(api.Policy{Rules: rules, Default: v})
			if e != api.OK || !slices.Equal(f, []api.Ins{{Op: api.RetK, K: v}}) {
				t.Errorf("Lower(default %#x): %+v, %d", v, f, e)
			}
		}
	}
	f, _ := lower.Lower(parse(t, "default kill\n"))
	if s, _ := codec.Print(f); s != "ret 0x0\n" {
		t.Errorf("default kill: %q", s)
	}
}

// P13.1, P13.3: ordinary policies, as texts.
func TestTexts(t *testing.T) {
	next := numbers(1)
	for _, s := range []string{
		"on x64 write allow\ndefault kill\n",
		"on x64 write allow if a0 0xffffffff eq 0x1\ndefault kill\n",
		"on x64 write allow if a0 0xffffffff eq 0x1 and a1 0xff gt 0x3\non x64 write log\ndefault kill\n",
		"on x64 write trap\non x64 write allow\ndefault log\n",
		"on x64 write kill\ndefault kill\n",
		"on x64 write kill if a0 0x1 eq 0x1\non a64 write kill if a5 0x2 ne 0x1\ndefault kill\n",
		"on 0x0 0x0 allow\ndefault kill\n",
		"on 0xffffffff 0xffffffff allow if a5 0xffffffffffffffff eq 0xffffffffffffffff\ndefault trap\n",
		"on x64 read allow\non x86 read log\non a64 read error:0x1\non arm read error:0xfff\ndefault kill\n",
		"on x64 read allow if a0 0x0 eq 0x0\non x64 read log\ndefault kill\n",
		"on x64 read allow if a0 0x0 ne 0x0\non x64 read log\ndefault kill\n",
		"on x64 read allow if a0 0xff eq 0x105\non x64 read log\ndefault kill\n",
		"on x64 mmap allow if a2 0xffffffffffffffff lt 0x100000000 and a3 0xffffffff00000000 eq 0x0\non x64 mmap error:0xd if a2 0xffffffffffffffff le 0x1ffffffff\ndefault kill\n",
	} {
		p := parse(t, s)
		wantFilter(t, p, recordsFor(next, p))
	}
}

// P13.1, P13.3, P13.4: policies of any number of rules.
func TestPolicies(t *testing.T) {
	t.Parallel()
	for seed := range 600 {
		next := numbers(seed)
		n := next(12)
		if seed%6 == 0 {
			n = next(mostRules + 1)
		}
		p := somePolicy(next, n)
		wantFilter(t, p, recordsFor(next, p))
	}
}

// P13.1: the greatest policies have a filter still, whatever system calls their rules are for.
func TestGreatestPolicies(t *testing.T) {
	t.Parallel()
	const longest = 0x7fffffff7fffffff // both halves count, and not all of their bits
	systems := map[string]func(i int) (arch, nr uint32){
		"one system call":                      func(int) (uint32, uint32) { return x64, 1 },
		"one architecture":                     func(i int) (uint32, uint32) { return x64, uint32(i) * 7 % 64 },
		"as many architectures":                func(i int) (uint32, uint32) { return uint32(i) * 11 % 64, 1 },
		"all different":                        func(i int) (uint32, uint32) { return uint32(i) * 11 % 64, uint32(i) },
		"few of each":                          func(i int) (uint32, uint32) { return uint32(i % 3), uint32(i % 5) },
		"long system calls":                    func(i int) (uint32, uint32) { return x64, uint32(i % 2) },
		"long architectures":                   func(i int) (uint32, uint32) { return uint32(i % 2), uint32(i / 2) },
		"one architecture with more than most": func(i int) (uint32, uint32) { return uint32(i / 60), uint32(i % 60) },
	}
	for name, of := range systems {
		for _, mask := range []uint64{all, longest, 0xff} {
			for cmp := range cmps + 1 { // the last is all of them in turn
				if cmp%3 != 0 && mask != longest {
					continue
				}
				next := numbers(cmp)
				p := api.Policy{Default: actions[cmp]}
				for i := range mostRules {
					arch, nr := of(i)
					x := api.Rule{Arch: arch, Nr: nr, Action: uint32(api.Error + i%3*(i+1))}
					for j := range mostConds {
						c := api.Cond{Arg: (i + j) % args, Cmp: cmp, Mask: mask, Value: edges[next(len(edges))]}
						if cmp == cmps {
							c.Cmp = next(cmps)
						}
						x.Conds = append(x.Conds, c)
					}
					p.Rules = append(p.Rules, x)
				}
				var ds []api.Data // not all: each run takes long
				for i, d := range recordsFor(next, p) {
					if i%7 == cmp {
						ds = append(ds, d)
					}
				}
				f := wantFilter(t, p, ds)
				if len(f) > mostIns {
					t.Errorf("%s: %d instructions", name, len(f))
				}
			}
		}
	}
}

// P13.1: long filters don't become longer by jumps, but where a system call's code is too long to branch over it.
func TestFewJumps(t *testing.T) {
	p := api.Policy{Default: api.Kill}
	for i := range mostRules {
		x := api.Rule{Arch: x64, Nr: uint32(i % 2), Action: api.Allow}
		for j := range mostConds {
			x.Conds = append(x.Conds, api.Cond{Arg: j, Cmp: j, Mask: 0x7fffffff7fffffff, Value: edges[i%len(edges)]})
		}
		p.Rules = append(p.Rules, x)
	}
	jumps, ends := 0, 0
	f := wantFilter(t, p, nil)
	for _, i := range f {
		if i.Op == api.Ja {
			jumps++
		}
		if ins.Ends(i) {
			ends++
		}
	}
	if jumps > 3 || ends > mostRules/2 {
		t.Errorf("%d jumps and %d ends, of %d instructions", jumps, ends, len(f))
	}
}

// P13.1, P13.3: of rules for one system call the first that matches counts, in the order that they have in the policy.
func TestFirstRuleCounts(t *testing.T) {
	value := func(v uint64) api.Cond { return api.Cond{Arg: 1, Cmp: api.Le, Mask: all, Value: v} }
	p := api.Policy{Default: api.Kill}
	for i := range uint64(20) {
		p.Rules = append(p.Rules,
			api.Rule{Arch: x64, Nr: 9 - uint32(i%10), Action: uint32(api.Error + i), Conds: []api.Cond{value(i << 31)}},
			api.Rule{Arch: a64, Nr: uint32(i % 10), Action: uint32(api.Error + 100 + i), Conds: []api.Cond{value(i)}})
	}
	var ds []api.Data
	for nr := range uint32(11) {
		for i := range uint64(42) {
			ds = append(ds, api.Data{Arch: x64, Nr: nr, Args: [6]uint64{0, i << 30}}, api.Data{Arch: a64, Nr: nr, Args: [6]uint64{0, i}})
		}
	}
	wantFilter(t, p, ds)
	slices.Reverse(p.Rules)
	wantFilter(t, p, ds)
	p.Rules = append([]api.Rule{{Arch: x64, Nr: 4, Action: api.Allow}}, p.Rules...)
	f := wantFilter(t, p, ds)
	p.Rules = append(p.Rules, api.Rule{Arch: x64, Nr: 4, Action: api.Trap})
	if g := wantFilter(t, p, ds); !slices.Equal(f, g) {
		t.Errorf("a rule that never counts makes the filter another one: %d and %d instructions", len(f), len(g))
	}
}

// P13.1: policies that are not valid.
func TestNoPolicy(t *testing.T) {
	good := api.Rule{Arch: x64, Nr: 1, Action: api.Allow}
	for _, v := range noActions {
		wantArg(t, api.Policy{Default: v})
		wantArg(t, api.Policy{Rules: []api.Rule{good}, Default: v})
		wantArg(t, api.Policy{Rules: []api.Rule{{Action: v}}})
		wantArg(t, api.Policy{Rules: []api.Rule{good, good, {Arch: x64, Nr: 1, Action: v}}})
	}
	conds := func(n int, last ...api.Cond) []api.Rule {
		x := good
		x.Conds = append(make([]api.Cond, n), last...)
		return []api.Rule{good, x}
	}
	for _, c := range noConds {
		for n := range mostConds {
			wantArg(t, api.Policy{Rules: conds(n, c)})
		}
	}
	for _, n := range []int{mostConds + 1, mostConds + 2, 256, 260} {
		wantArg(t, api.Policy{Rules: conds(n)})
	}
	for _, n := range []int{mostRules + 1, mostRules + 2, 256, 300, 5000} {
		wantArg(t, api.Policy{Rules: slices.Repeat([]api.Rule{good}, n)})
	}
	wantFilter(t, api.Policy{Rules: conds(mostConds)}, []api.Data{{}, {Arch: x64, Nr: 1}})
	wantFilter(t, api.Policy{Rules: slices.Repeat([]api.Rule{good}, mostRules)}, []api.Data{{}, {Arch: x64, Nr: 1}})
}

// P13.2: the conditions of all kinds, at their edges, for each argument.
func TestConditions(t *testing.T) {
	c := some(2)
	arg := 0
	for _, mask := range masks {
		for _, value := range slices.Concat(edges, masks) {
			for cmp := range cmps {
				arg = (arg + 1) % args
				x := api.Cond{Arg: arg, Cmp: cmp, Mask: mask, Value: value}
				var ds []api.Data
				for _, v := range slices.Concat(edges, around(x)) {
					ds = append(ds, record(arg, v))
				}
				wantTest(t, c, x, 2, 1, ds...)
				wantTest(t, c, x, 1, 2, ds...)
			}
		}
	}
}

// P13.2: the chapter's and its test's condition, as runs; both labels may be the same.
func TestRuns(t *testing.T) {
	for cmp, want := range [][]uint32{{0, 1, 0, 0}, {1, 0, 1, 1}, {1, 0, 0, 0}, {1, 1, 0, 0}, {0, 0, 1, 1}, {0, 1, 1, 1}} {
		for i, v := range []uint64{4, 5, 6, 1 << 40} {
			f, _, _ := lower.Test([]api.Ins{{Op: api.RetK, K: 1}, {Op: api.RetK}}, api.Cond{Arg: 2, Cmp: cmp, Mask: all, Value: 5}, 2, 1)
			got, _, e := run.Run(f, api.Data{Args: [6]uint64{0, 0, v}})
			if got != want[i] || e != api.OK {
				t.Errorf("comparison %d of %d and 5: %d, %d", cmp, v, got, e)
			}
		}
	}
	for cmp := range cmps {
		x := api.Cond{Arg: 5, Cmp: cmp, Mask: all, Value: 1 << 33}
		for _, to := range []int{1, 2, 3} {
			wantTest(t, some(3), x, to, to, record(5, 1<<33), record(5, 1), record(5, 1<<34))
		}
	}
}

// P13.2: labels near and far, and at the edges of what a branch reaches, for conditions of all forms.
func TestFarLabels(t *testing.T) {
	t.Parallel()
	var xs []api.Cond
	for cmp := range cmps {
		for _, mask := range []uint64{all, 0xffffffff, 0xffffffff00000000, 0x0f0f0f0f0f0f0f0f} {
			xs = append(xs, api.Cond{Arg: cmp, Cmp: cmp, Mask: mask, Value: 0x0102030405060708 & mask})
		}
	}
	for _, n := range []int{1, 2, 240, 250, 254, 255, 256, 257, 258, 262, 270, 600, mostIns - mostFront} {
		c := some(n)
		labels := []int{1, 2, n}
		for l := max(3, n-257); l < min(n, n-242); l++ {
			labels = append(labels, l)
		}
		if n == mostIns-mostFront { // each call copies much
			labels = []int{1, n - 255, n - 250, n}
		}
		for _, to := range labels {
			for _, or := range labels {
				if to > n || or > n {
					continue
				}
				for _, x := range xs {
					v := x.Value
					wantTest(t, c, x, to, or, record(x.Arg, v), record(x.Arg, v+1), record(x.Arg, v-1), record(x.Arg, v+1<<32), record(x.Arg, v-1<<32), record(x.Arg, 0), record(x.Arg, all))
				}
			}
		}
	}
}

// P13.2: code that is full tells so, just if there is no room for what the condition takes; where there is room for the
// most that it may take, never.
func TestFull(t *testing.T) {
	t.Parallel()
	long := rets(2 * mostIns)
	ofLength := func(n int) []api.Ins { return long[len(long)-n:] }
	for cmp := range cmps {
		for _, mask := range []uint64{all, 0xff, 0xffffffff, 0xffffffff << 32, 0x7f0000007f, 0} {
			for _, value := range []uint64{0, 3<<32 + 3} {
				x := api.Cond{Arg: 1, Cmp: cmp, Mask: mask, Value: value}
				for _, far := range [][2]bool{{true, true}, {true, false}, {false, true}, {false, false}} {
					labels := func(n int) (int, int) {
						to, or := n, n
						if far[0] {
							to = 1
						}
						if far[1] {
							or = 2
						}
						return to, or
					}
					to, or := labels(1000)
					takes := wantTest(t, ofLength(1000), x, to, or)
					for n := mostIns - takes - 1; n <= mostIns+1; n++ {
						to, or := labels(n)
						if n+takes <= mostIns {
							wantTest(t, ofLength(n), x, to, or)
						} else {
							wantFault(t, ofLength(n), x, to, or, api.ErrFull)
						}
					}
					to, or = labels(2 * mostIns)
					wantFault(t, long, x, to, or, api.ErrFull)
				}
			}
		}
	}
}

// P13.2, P0 (R1, R2): conditions that are not valid, labels that there are not, and both, on full code too.
func TestFaults(t *testing.T) {
	good := api.Cond{Arg: 3, Cmp: api.Lt, Mask: all, Value: 1 << 40}
	for _, n := range []int{0, 1, 2, 300, mostIns - 1, mostIns, mostIns + 1} {
		c := some(n)
		for _, x := range noConds {
			wantFault(t, c, x, n, 1, api.ErrArg)
			wantFault(t, c, x, 0, 1, api.ErrArg)
			wantFault(t, c, x, n+1, n+1, api.ErrArg)
		}
		for _, l := range []int{0, -1, -n, -n - 1, n + 1, n + 2, n + 256, 1 << 32, 1<<32 + 1, 1<<32 + n, math.MinInt, math.MinInt + 1, math.MaxInt, math.MinInt32, math.MaxInt32 + 1} {
			if 1 <= l && l <= n {
				continue
			}
			for _, other := range []int{1, n, l} {
				wantFault(t, c, good, l, other, api.ErrJump)
				wantFault(t, c, good, other, l, api.ErrJump)
				wantFault(t, c, api.Cond{}, other, l, api.ErrJump)
			}
		}
	}
	for _, c := range [][]api.Ins{nil, {}, make([]api.Ins, 0, 8)} {
		wantFault(t, c, good, 1, 1, api.ErrJump)
		wantFault(t, c, good, 0, 0, api.ErrJump)
		wantFault(t, c, noConds[0], 0, 0, api.ErrArg)
	}
}

// P13.2: conditions one ahead of the other, as in a rule: code that has grown does the same.
func TestConditionsInARow(t *testing.T) {
	for seed := range 60 {
		next := numbers(seed)
		c, to := some(2), 2
		var xs []api.Cond
		for range 1 + next(30) {
			x := someCond(next)
			xs = append(xs, x)
			grown, l, e := lower.Test(c, x, to, 1)
			if e != api.OK {
				t.Fatal(e)
			}
			c, to = grown, l
		}
		p := api.Policy{Rules: []api.Rule{{Conds: xs}}}
		for _, d := range recordsFor(next, p) {
			want := 2
			for _, x := range xs {
				if !holds(x, d) {
					want = 1
				}
			}
			if l, _ := walk(c, 2, dirty(), d); l != want {
				t.Fatalf("%+v, for %+v: goes to %d, want %d", xs, d, l, want)
			}
		}
	}
}

func clone(p api.Policy) api.Policy {
	p.Rules = slices.Clone(p.Rules)
	for i := range p.Rules {
		p.Rules[i].Conds = slices.Clone(p.Rules[i].Conds)
	}
	return p
}

func same(p, q api.Policy) bool {
	return p.Default == q.Default && slices.EqualFunc(p.Rules, q.Rules, func(x, y api.Rule) bool {
		return x.Arch == y.Arch && x.Nr == y.Nr && x.Action == y.Action && slices.Equal(x.Conds, y.Conds)
	})
}

// P13.4, P0 (R3, R4): a policy has the same filter each time, in memory of its own, and is not modified.
func TestSameEachTime(t *testing.T) {
	t.Parallel()
	for seed := range 12 {
		next := numbers(seed)
		p := somePolicy(next, mostRules-seed)
		for i := range p.Rules {
			p.Rules[i].Arch, p.Rules[i].Nr = uint32(next(8)), uint32(next(12))
		}
		before := clone(p)
		first := wantFilter(t, p, nil)
		kept := slices.Clone(first)
		for range 40 {
			f, e := lower.Lower(p)
			if e != api.OK || !slices.Equal(f, kept) {
				t.Fatalf("another filter, of %d and %d instructions", len(f), len(kept))
			}
			f = f[:cap(f)]
			for i := range f {
				f[i] = api.Ins{Op: -1}
			}
		}
		if !slices.Equal(first, kept) || !same(p, before) {
			t.Error("a filter shares its memory, or the policy was modified")
		}
		for i := range p.Rules {
			clear(p.Rules[i].Conds)
		}
		clear(p.Rules)
		if !slices.Equal(first, kept) {
			t.Error("a filter shares its policy's memory")
		}
	}
}

// P0 (R3, R4): Test neither modifies nor keeps code, with what is behind it in its memory.
func TestMemoryIsNotShared(t *testing.T) {
	room := some(700)
	c := room[20:620]
	before := slices.Clone(room)
	xs := []api.Cond{{Mask: all, Value: 5}, {Cmp: api.Ge, Mask: 0xff, Value: 5}, {Cmp: api.Le, Mask: 0xffffffff00000000, Value: 5 << 32}, {}}
	calls := func() [][]api.Ins {
		var out [][]api.Ins
		for _, x := range xs {
			for _, to := range []int{1, 600} {
				got, _, _ := lower.Test(c, x, to, 2)
				out = append(out, got)
			}
		}
		return out
	}
	results, copies := calls(), calls()
	for i, x := range results {
		if !slices.Equal(x, copies[i]) {
			t.Errorf("call %d answers another code the second time", i)
		}
	}
	for _, x := range results {
		x = x[:cap(x)]
		for j := range x {
			x[j] = api.Ins{Op: -1}
		}
	}
	if !slices.Equal(room, before) {
		t.Fatal("the code was modified, or shares memory with new code")
	}
	for i, x := range copies {
		n := len(x) - len(c)
		if n < 1 || !slices.Equal(x[n:], c) {
			t.Errorf("code %d shares memory with another one", i)
		}
	}
	again := calls()
	clear(room)
	for i, x := range again {
		if !slices.Equal(x, copies[i]) {
			t.Errorf("code %d shares memory with the one handed in", i)
		}
	}
}

// FuzzLower holds filters against the tests' own reading of policies.
func FuzzLower(f *testing.F) {
	f.Add("default kill\n", uint(0))
	f.Add("on x64 write allow if a0 0xffffffff eq 0x1\non x64 write log\ndefault kill\n", uint(1))
	f.Add("on a64 0x1 error:0x2 if a5 0xffffffff00000000 ne 0x100000000 and a4 0xffffffffffffffff lt 0x200000001\ndefault trap\n", uint(2))
	f.Fuzz(func(t *testing.T, s string, seed uint) {
		next := numbers(int(seed))
		p, _, e := policy.Parse(s)
		if e != api.OK {
			p = somePolicy(next, next(mostRules+1))
		}
		wantFilter(t, p, recordsFor(next, p))
	})
}

// FuzzTest holds the code of conditions against the tests' own reading of them.
func FuzzTest(f *testing.F) {
	f.Add(0, 0, uint64(0xff), uint64(5), uint64(0x105), uint16(2), 2, 1)
	f.Add(5, 3, uint64(all), uint64(1<<32), uint64(1<<32+1), uint16(600), 1, 600)
	f.Add(6, -1, uint64(0), uint64(0), uint64(0), uint16(4096), 0, 4097)
	f.Fuzz(func(t *testing.T, arg, cmp int, mask, value, a uint64, n uint16, to, or int) {
		c := some(int(n) % 5000)
		x := api.Cond{Arg: arg, Cmp: cmp, Mask: mask, Value: value}
		switch {
		case arg < 0 || arg >= args || cmp < 0 || cmp >= cmps:
			wantFault(t, c, x, to, or, api.ErrArg)
		case min(to, or) < 1 || max(to, or) > len(c):
			wantFault(t, c, x, to, or, api.ErrJump)
		case len(c) <= mostIns-mostFront:
			ds := []api.Data{record(arg, a)}
			for _, v := range around(x) {
				ds = append(ds, record(arg, v))
			}
			wantTest(t, c, x, to, or, ds...)
		default:
			if got, l, e := lower.Test(c, x, to, or); len(got) > max(mostIns, len(c)) || (e == api.OK) != (l > 0) || e != api.OK && e != api.ErrFull {
				t.Errorf("Test(%d, %+v, %d, %d): %d instructions, label %d, error %d", len(c), x, to, or, len(got), l, e)
			}
		}
	})
}
