package denote_test

import (
	"fmt"
	"math"
	"math/big"
	"slices"
	"testing"

	"hurdle/api"
	"hurdle/denote"
	"hurdle/policy"
)

// The limits that the document names.
const (
	mostRules = 64
	mostConds = 4
	args      = 6
	cmps      = 6
)

const (
	x64 = 0xc000003e
	a64 = 0xc00000b7
)

var (
	// actions are some of each kind.
	actions = []uint32{0, 0x30000, 0x50000, 0x50001, 0x50fff, 0x7ffc0000, 0x7fff0000}

	// noActions are numbers beside those of actions, or that would be an action's in fewer bits.
	noActions = []uint32{1, 0xfff, 0x2ffff, 0x30001, 0x40000, 0x4ffff, 0x51000, 0x7ffbffff, 0x7ffc0001, 0x7ffd0000, 0x7ffeffff, 0x7fff0001, 0x80000000, 0x80030000, 0xffff0000, 0xffffffff}

	// noConds are conditions that are not valid; most would hold for any record if they were cut to a valid one.
	noConds = []api.Cond{{Arg: -1}, {Arg: 6}, {Arg: 9}, {Arg: 256}, {Cmp: -1}, {Cmp: 6}, {Cmp: 256}, {Arg: math.MinInt}, {Cmp: math.MinInt}, {Arg: math.MaxInt, Cmp: math.MaxInt}, {Arg: 1 << 32}, {Cmp: 1 << 32}, {Arg: -6, Cmp: -6}}

	// edges are numbers at which a bit, a half or a sign may go wrong.
	edges = []uint64{0, 1, 2, 5, 0xff, 0x105, 0x7fffffff, 0x80000000, 0xfffffffe, 0xffffffff, 0x100000000, 0x100000001, 0xffffffff00000000, 0x7fffffffffffffff, 0x8000000000000000, 0xfffffffffffffffe, 0xffffffffffffffff}
)

// numbers answers numbers that look mixed, the same for each seed.
func numbers(seed int) func(below int) int {
	n := uint64(seed)*2 + 1
	return func(below int) int {
		n = n*6364136223846793005 + 1442695040888963407
		return int(n >> 33 % uint64(below))
	}
}

// The chapter, read in another way than the program does.

// holds holds numbers without bounds against each other.
func holds(c api.Cond, d api.Data) bool {
	if c.Arg < 0 || c.Arg >= args {
		return false
	}
	number := func(n uint64) *big.Int { return new(big.Int).SetUint64(n) }
	masked := new(big.Int).And(number(d.Args[c.Arg]), number(c.Mask))
	signs := map[int][]int{0: {0}, 1: {-1, 1}, 2: {-1}, 3: {-1, 0}, 4: {1}, 5: {0, 1}}
	return slices.Contains(signs[c.Cmp], masked.Cmp(number(c.Value)))
}

// fits counts the conditions that hold.
func fits(x api.Rule, d api.Data) bool {
	count := 0
	for _, c := range x.Conds {
		if holds(c, d) {
			count++
		}
	}
	return count == len(x.Conds) && [2]uint32{x.Arch, x.Nr} == [2]uint32{d.Arch, d.Nr}
}

// expect goes from the last rule to the first: each that matches replaces what is known.
func expect(p api.Policy, d api.Data) (first int, action uint32) {
	first, action = -1, p.Default
	for i := len(p.Rules) - 1; i >= 0; i-- {
		if fits(p.Rules[i], d) {
			first, action = i, p.Rules[i].Action
		}
	}
	return first, action
}

// What the calls must answer.

func wantFits(t *testing.T, x api.Rule, d api.Data, want bool) {
	t.Helper()
	if got := denote.Fits(x, d); got != want {
		t.Errorf("Fits(%.300s, %+v): %v", fmt.Sprintf("%+v", x), d, got)
	}
}

func wantResult(t *testing.T, p api.Policy, d api.Data, first int, action uint32) {
	t.Helper()
	if i, e := denote.First(p, d); i != first || e != api.OK {
		t.Errorf("First(%s, %+v): %d, %d; want %d", brief(p), d, i, e, first)
	}
	if v, e := denote.Judge(p, d); v != action || e != api.OK {
		t.Errorf("Judge(%s, %+v): %#x, %d; want %#x", brief(p), d, v, e, action)
	}
}

// wantAsExpected holds all calls against the other reading.
func wantAsExpected(t *testing.T, p api.Policy, d api.Data) {
	t.Helper()
	first, action := expect(p, d)
	wantResult(t, p, d, first, action)
	for _, x := range p.Rules {
		wantFits(t, x, d, fits(x, d))
	}
}

// wantArg: a policy that is not valid has no meaning, whatever the record is.
func wantArg(t *testing.T, p api.Policy, ds ...api.Data) {
	t.Helper()
	for _, d := range ds {
		if i, e := denote.First(p, d); i != 0 || e != api.ErrArg {
			t.Errorf("First(%s, %+v): %d, %d; want 0, ErrArg", brief(p), d, i, e)
		}
		if v, e := denote.Judge(p, d); v != 0 || e != api.ErrArg {
			t.Errorf("Judge(%s, %+v): %#x, %d; want 0, ErrArg", brief(p), d, v, e)
		}
	}
}

// wantAlike: two policies mean the same for each of these records.
func wantAlike(t *testing.T, p, q api.Policy, ds []api.Data) {
	t.Helper()
	for _, d := range ds {
		v, e := denote.Judge(p, d)
		w, f := denote.Judge(q, d)
		if v != w || e != api.OK || f != api.OK {
			t.Errorf("for %+v: %#x, %d by %s; %#x, %d by %s", d, v, e, brief(p), w, f, brief(q))
		}
	}
}

// brief keeps the messages about long policies short.
func brief(p api.Policy) string {
	return fmt.Sprintf("%d: %.300s", len(p.Rules), fmt.Sprintf("%+v", p))
}

// Inputs.

// call is a record of system call 1 on x64, with these arguments.
func call(values ...uint64) api.Data {
	d := api.Data{Arch: x64, Nr: 1}
	copy(d.Args[:], values)
	return d
}

// full is a record all bits of which are set.
func full() api.Data {
	d := api.Data{Nr: math.MaxUint32, Arch: math.MaxUint32, Ip: math.MaxUint64}
	for i := range d.Args {
		d.Args[i] = math.MaxUint64
	}
	return d
}

// rule is one for system call 1 on x64.
func rule(action uint32, conds ...api.Cond) api.Rule {
	return api.Rule{Arch: x64, Nr: 1, Conds: conds, Action: action}
}

// equal is the condition that an argument is this number.
func equal(arg int, value uint64) api.Cond {
	return api.Cond{Arg: arg, Cmp: api.Eq, Mask: math.MaxUint64, Value: value}
}

// someRules are few system calls, and few conditions, so that most records match some of them.
func someRules() []api.Rule {
	low := api.Cond{Arg: 0, Cmp: api.Eq, Mask: 1, Value: 1}
	great := api.Cond{Arg: 1, Cmp: api.Gt, Mask: 0xff, Value: 3}
	return []api.Rule{
		rule(0x7fff0000),
		rule(0x30000),
		rule(0x7ffc0000, low),
		rule(0x50002, great),
		rule(0, low, great),
		{Arch: x64, Nr: 2, Action: 0x50003},
		{Arch: a64, Nr: 1, Action: 0x50004, Conds: []api.Cond{low}},
		{Arch: 1, Nr: x64, Action: 0x50005},
	}
}

// someRecords are for the system calls of someRules, and others.
func someRecords() []api.Data {
	ds := []api.Data{{}, full(), {Arch: 1, Nr: x64}}
	for _, arch := range []uint32{x64, a64, 1} {
		for _, nr := range []uint32{1, 2, 3} {
			for _, a := range []uint64{0, 1, 1 << 32, 1<<32 + 1} {
				for _, b := range []uint64{0, 3, 4, 0x103, 0x104} {
					ds = append(ds, api.Data{Arch: arch, Nr: nr, Args: [6]uint64{a, b}})
				}
			}
		}
	}
	return ds
}

// mixedRules answers n rules of someRules, in an order that hangs on the seed, each with an action of its own.
func mixedRules(seed, n int) []api.Rule {
	next := numbers(seed)
	rules := make([]api.Rule, n)
	for i := range rules {
		rules[i] = someRules()[next(len(someRules()))]
		rules[i].Action = api.Error + uint32(next(0x1000))
	}
	return rules
}

// mixedPolicies are short and long ones.
func mixedPolicies() []api.Policy {
	var ps []api.Policy
	for seed := range 40 {
		n := []int{0, 1, 2, 3, 5, 8, 30, mostRules - 1}[seed%8]
		ps = append(ps, api.Policy{Rules: mixedRules(seed, n), Default: actions[seed%len(actions)]})
	}
	return ps
}

// with answers a policy with one more rule at an index.
func with(p api.Policy, at int, x api.Rule) api.Policy {
	p.Rules = slices.Insert(slices.Clone(p.Rules), at, x)
	return p
}

// P11.1: the example of the chapter.
func TestExample(t *testing.T) {
	p, _, e := policy.Parse("on x64 write allow if a0 0xffffffff eq 0x1\ndefault kill\n")
	if e != api.OK {
		t.Fatal(e)
	}
	for _, d := range []api.Data{call(1), call(1<<32 + 1), call(math.MaxUint32<<32 + 1), call(1, 2, 3, 4, 5, 6)} {
		wantResult(t, p, d, 0, api.Allow)
	}
	for _, d := range []api.Data{{}, full(), call(), call(0, 1), call(2), call(1 << 32), {Arch: a64, Nr: 1, Args: [6]uint64{1}}, {Arch: x64, Nr: 4, Args: [6]uint64{1}}} {
		wantResult(t, p, d, -1, api.Kill)
	}
}

// DOC.md, the sixth of its examples: a rule without conditions.
func TestWholeExample(t *testing.T) {
	p, _, e := policy.Parse("on x64 write allow\ndefault kill\n")
	if e != api.OK {
		t.Fatal(e)
	}
	wantResult(t, p, call(), 0, api.Allow)
	wantResult(t, p, call(1, 2, 3), 0, api.Allow)
	wantResult(t, p, api.Data{Arch: x64, Nr: 64}, -1, api.Kill)
	wantResult(t, p, api.Data{Arch: a64, Nr: 1}, -1, api.Kill)
	wantResult(t, p, api.Data{Arch: 1, Nr: x64}, -1, api.Kill)
}

// P11.1: a rule is for just one system call on one architecture, by all their bits.
func TestFitsSystemCall(t *testing.T) {
	for _, d := range []api.Data{{}, full(), call(), call(7, 7, 7), {Arch: 5, Nr: 5}} {
		x := api.Rule{Arch: d.Arch, Nr: d.Nr}
		wantFits(t, x, d, true)
		for bit := range 32 {
			other := x
			other.Arch ^= 1 << bit
			wantFits(t, other, d, false)
			other = x
			other.Nr ^= 1 << bit
			wantFits(t, other, d, false)
			other.Arch ^= 1 << bit
			wantFits(t, other, d, false)
		}
		wantFits(t, api.Rule{Arch: d.Nr, Nr: d.Arch}, d, d.Nr == d.Arch)
	}
}

// P11.1: one condition, with each comparison, at the edges of the numbers.
func TestFitsOneCondition(t *testing.T) {
	for cmp := range cmps {
		for _, mask := range edges {
			for _, value := range edges {
				for i, n := range edges {
					arg := i % args
					d := call()
					d.Args[arg] = n
					x := rule(api.Allow, api.Cond{Arg: arg, Cmp: cmp, Mask: mask, Value: value})
					wantFits(t, x, d, fits(x, d))
				}
			}
		}
	}
}

// P11.1: a condition is of its own argument.
func TestFitsArgument(t *testing.T) {
	for arg := range args {
		for other := range args {
			d := call()
			d.Args[other] = 7
			wantFits(t, rule(api.Allow, equal(arg, 7)), d, arg == other)
			wantFits(t, rule(api.Allow, equal(arg, 0)), d, arg != other)
		}
	}
}

// P11.1: all conditions must hold, whichever of them do not.
func TestFitsAllConditions(t *testing.T) {
	for n := range args + 1 {
		for failing := range 1 << n {
			d := call()
			var conds []api.Cond
			for i := range n {
				d.Args[i] = uint64(i + 10)
				conds = append(conds, equal(i, d.Args[i]+uint64(failing>>i&1)))
			}
			wantFits(t, rule(api.Allow, conds...), d, failing == 0)
		}
	}
}

// P11.1: Fits has no limit of conditions, and the last one counts as the first does.
func TestFitsManyConditions(t *testing.T) {
	for _, n := range []int{mostConds, mostConds + 1, 100, 10000} {
		conds := slices.Repeat([]api.Cond{equal(2, 9)}, n)
		wantFits(t, rule(api.Allow, conds...), call(0, 0, 9), true)
		wantFits(t, rule(api.Allow, conds...), call(9, 9, 8), false)
		for _, at := range []int{0, 1, n / 2, n - 2, n - 1} {
			one := slices.Clone(conds)
			one[at].Value = 8
			wantFits(t, rule(api.Allow, one...), call(0, 0, 9), false)
		}
	}
}

// P11.1: conditions of the same argument must all hold, and may rule each other out.
func TestFitsSameArgument(t *testing.T) {
	between := rule(api.Allow,
		api.Cond{Arg: 3, Cmp: api.Ge, Mask: 0xff, Value: 3},
		api.Cond{Arg: 3, Cmp: api.Lt, Mask: 0xff, Value: 7},
		api.Cond{Arg: 3, Cmp: api.Ne, Mask: 0xff, Value: 5})
	never := rule(api.Allow, equal(3, 1), equal(3, 2))
	for n := range uint64(600) {
		low := n % 256
		wantFits(t, between, call(0, 0, 0, n), low == 3 || low == 4 || low == 6)
		wantFits(t, never, call(0, 0, 0, n), false)
	}
}

// P11.1: with a condition that is not valid, a rule matches nothing.
func TestFitsNoCondition(t *testing.T) {
	for _, c := range noConds {
		for n := 1; n <= mostConds; n++ {
			for at := range n {
				conds := slices.Repeat([]api.Cond{equal(0, 0)}, n)
				conds[at] = c
				wantFits(t, rule(api.Allow, conds...), call(), false)
				wantFits(t, api.Rule{Arch: math.MaxUint32, Nr: math.MaxUint32, Conds: conds}, full(), false)
			}
		}
	}
}

// P11.1: whether a rule matches does not hang on its action, nor on where the system call was made.
func TestFitsWhatever(t *testing.T) {
	for _, action := range slices.Concat(actions, noActions) {
		for _, n := range edges {
			d := call(1)
			d.Ip = n
			wantFits(t, rule(action, equal(0, 1)), d, true)
			wantFits(t, rule(action, equal(0, 2)), d, false)
		}
	}
}

// P11.1: policies of every length, with the first match at each place, and none.
func TestFirstPlace(t *testing.T) {
	for n := range mostRules + 1 {
		rules := slices.Repeat([]api.Rule{rule(api.Trap, equal(0, 1))}, n)
		p := api.Policy{Rules: rules, Default: api.Log}
		wantResult(t, p, call(2), -1, api.Log)
		for at := range n {
			p.Rules = slices.Clone(rules)
			p.Rules[at] = rule(api.Error+uint32(at), equal(0, 2))
			wantResult(t, p, call(2), at, api.Error+uint32(at))
			if n > 1 {
				first := 0
				if at == 0 {
					first = 1
				}
				wantResult(t, p, call(1), first, api.Trap)
			}
		}
	}
}

// P11.1: of several that match, the first counts, whatever their actions are.
func TestFirstOfSeveral(t *testing.T) {
	for _, v := range actions {
		for _, w := range actions {
			p := api.Policy{Rules: []api.Rule{{Arch: x64, Nr: 2, Action: w}, rule(v), rule(w), rule(v)}, Default: w}
			wantResult(t, p, call(), 1, v)
			wantResult(t, p, api.Data{Arch: x64, Nr: 2}, 0, w)
			wantResult(t, p, api.Data{Arch: x64, Nr: 3}, -1, w)
		}
	}
}

// P11.1: every action is answered as it is, a rule's and a Default's.
func TestJudgeActions(t *testing.T) {
	all := []uint32{api.Kill, api.Trap, api.Log, api.Allow}
	for n := range uint32(4096) {
		all = append(all, api.Error+n)
	}
	for i, v := range all {
		p := api.Policy{Rules: []api.Rule{rule(v)}, Default: all[len(all)-1-i]}
		wantResult(t, p, call(), 0, v)
		wantResult(t, p, api.Data{}, -1, p.Default)
	}
}

// P11.1: a policy without rules is its Default, for every record.
func TestNoRules(t *testing.T) {
	for _, v := range actions {
		for _, d := range someRecords() {
			wantResult(t, api.Policy{Default: v}, d, -1, v)
			wantResult(t, api.Policy{Rules: []api.Rule{}, Default: v}, d, -1, v)
		}
	}
	wantResult(t, api.Policy{}, api.Data{}, -1, 0)
	wantResult(t, api.Policy{Rules: make([]api.Rule, 2)}, api.Data{}, 0, 0)
}

// P11.1: a rule's conditions may be as many as the limit.
func TestMostConditions(t *testing.T) {
	conds := []api.Cond{equal(0, 1), equal(1, 2), equal(4, 3), equal(5, 4)}
	p := api.Policy{Rules: []api.Rule{rule(api.Trap, conds...), rule(api.Log, conds[:3]...)}, Default: api.Allow}
	wantResult(t, p, call(1, 2, 0, 0, 3, 4), 0, api.Trap)
	wantResult(t, p, call(1, 2, 0, 0, 3, 5), 1, api.Log)
	wantResult(t, p, call(1, 2, 0, 0, 4, 4), -1, api.Allow)
	p.Rules[1].Conds = append(slices.Clone(conds), equal(2, 0))
	wantArg(t, p, call(1, 2, 0, 0, 3, 4), call(), api.Data{}, full())
}

// P11.1: all short policies of some rules, for some records.
func TestShortPolicies(t *testing.T) {
	ds := someRecords()
	rules := someRules()
	for _, a := range rules {
		for _, b := range rules {
			for _, c := range rules {
				p := api.Policy{Rules: []api.Rule{a, b, c}, Default: 0x50006}
				for _, d := range ds {
					first, action := expect(p, d)
					wantResult(t, p, d, first, action)
				}
			}
		}
	}
}

// P11.1: mixed policies, short and long.
func TestMixedPolicies(t *testing.T) {
	for _, p := range mixedPolicies() {
		for _, d := range someRecords() {
			wantAsExpected(t, p, d)
		}
	}
}

// P11.1: mixed conditions, of any arguments, about the numbers of the records.
func TestMixedConditions(t *testing.T) {
	for seed := range 400 {
		next := numbers(seed)
		d := call()
		for i := range d.Args {
			d.Args[i] = edges[next(len(edges))]
		}
		p := api.Policy{Default: api.Kill}
		for i := range mostRules {
			x := rule(api.Error + uint32(i))
			for range 1 + next(mostConds) {
				x.Conds = append(x.Conds, api.Cond{Arg: next(args), Cmp: next(cmps), Mask: edges[next(len(edges))], Value: edges[next(len(edges))]})
			}
			p.Rules = append(p.Rules, x)
		}
		wantAsExpected(t, p, d)
	}
}

// P11.1: a policy with too many rules is not valid, even if one ahead of them matches.
func TestTooManyRules(t *testing.T) {
	for _, n := range []int{mostRules + 1, mostRules + 2, 2 * mostRules, 256, 1 << 16} {
		p := api.Policy{Rules: slices.Repeat([]api.Rule{rule(api.Allow)}, n)}
		wantArg(t, p, call(), api.Data{}, full())
		p.Rules = make([]api.Rule, n)
		wantArg(t, p, call(), api.Data{}, full())
	}
}

// P11.1: what is not valid makes the whole policy so, at any place, behind a match and where the record does not get to.
func TestNotValid(t *testing.T) {
	ds := []api.Data{call(), call(1), {}, full(), {Arch: x64, Nr: 2}}
	for n := 1; n <= 5; n++ {
		for at := range n {
			p := api.Policy{Rules: slices.Repeat([]api.Rule{rule(api.Allow)}, n)}
			for _, v := range noActions {
				p.Rules[at] = rule(v)
				wantArg(t, p, ds...)
			}
			for _, c := range noConds {
				p.Rules[at] = rule(api.Allow, c)
				wantArg(t, p, ds...)
				p.Rules[at] = rule(api.Allow, equal(0, 1), equal(0, 2), equal(0, 3), c)
				wantArg(t, p, ds...)
				p.Rules[at] = api.Rule{Arch: x64, Nr: 2, Conds: []api.Cond{c}}
				wantArg(t, p, ds...)
			}
			for _, many := range []int{mostConds + 1, 256, 260} {
				p.Rules[at] = rule(api.Allow, slices.Repeat([]api.Cond{equal(0, 0)}, many)...)
				wantArg(t, p, ds...)
			}
		}
	}
}

// P11.1: a Default that is no action, even if a rule matches.
func TestNoDefault(t *testing.T) {
	for _, v := range noActions {
		wantArg(t, api.Policy{Default: v}, call(), api.Data{}, full())
		wantArg(t, api.Policy{Rules: []api.Rule{rule(api.Allow)}, Default: v}, call(), api.Data{}, full())
	}
}

// P11.2: behind a rule without conditions, none for the same system call makes a difference, and its index is no result.
func TestRuleBehindOneWithoutConditions(t *testing.T) {
	ds := someRecords()
	for _, p := range mixedPolicies() {
		for i, x := range p.Rules {
			if len(x.Conds) > 0 {
				continue
			}
			for _, conds := range [][]api.Cond{nil, {equal(0, 1)}, {{Cmp: api.Ge}}} {
				at := i + 1 + i%(len(p.Rules)-i)
				y := api.Rule{Arch: x.Arch, Nr: x.Nr, Conds: conds, Action: api.Error + 0xabc}
				q := with(p, at, y)
				wantAlike(t, p, q, ds)
				for _, d := range ds {
					if first, _ := denote.First(q, d); first == at {
						t.Errorf("First(%s, %+v): %d", brief(q), d, at)
					}
				}
			}
			break
		}
	}
}

// P11.3: a rule at the beginning decides where it matches, and nowhere else.
func TestRuleAtTheBeginning(t *testing.T) {
	ds := someRecords()
	for _, p := range mixedPolicies() {
		for i, x := range someRules() {
			x.Action = actions[i%len(actions)]
			q := with(p, 0, x)
			for _, d := range ds {
				first, action := expect(p, d)
				if first >= 0 {
					first++
				}
				if denote.Fits(x, d) {
					first, action = 0, x.Action
				}
				wantResult(t, q, d, first, action)
			}
		}
	}
}

// P11.4: neighbours for different system calls can be exchanged.
func TestExchange(t *testing.T) {
	ds := someRecords()
	exchanged := 0
	for _, p := range mixedPolicies() {
		for i := 1; i < len(p.Rules); i++ {
			q := api.Policy{Rules: slices.Clone(p.Rules), Default: p.Default}
			q.Rules[i-1], q.Rules[i] = q.Rules[i], q.Rules[i-1]
			if p.Rules[i-1].Arch != p.Rules[i].Arch || p.Rules[i-1].Nr != p.Rules[i].Nr {
				wantAlike(t, p, q, ds)
				exchanged++
			}
		}
	}
	if exchanged < 100 {
		t.Errorf("only %d pairs", exchanged)
	}
	// On one architecture only the number differs, and on two only the architecture.
	for _, other := range []api.Rule{{Arch: x64, Nr: 2}, {Arch: a64, Nr: 1}} {
		p := api.Policy{Rules: []api.Rule{rule(api.Allow), other}, Default: api.Trap}
		wantAlike(t, p, api.Policy{Rules: []api.Rule{other, rule(api.Allow)}, Default: api.Trap}, ds)
	}
}

// P11.5: a last rule whose action is the Default makes no difference.
func TestLastRuleOfTheDefault(t *testing.T) {
	ds := someRecords()
	for _, p := range mixedPolicies() {
		for _, x := range someRules() {
			x.Action = p.Default
			q := with(p, len(p.Rules), x)
			wantAlike(t, p, q, ds)
			for _, d := range ds {
				first, _ := expect(p, d)
				if first < 0 && fits(x, d) {
					first = len(p.Rules)
				}
				if i, e := denote.First(q, d); i != first || e != api.OK {
					t.Errorf("First(%s, %+v): %d, %d; want %d", brief(q), d, i, e, first)
				}
			}
		}
	}
}

// P0 (R1): any values, in every call, end without a panic.
func TestAnyValues(t *testing.T) {
	for _, arch := range edges {
		for _, v := range edges {
			conds := []api.Cond{{Arg: int(v), Cmp: int(arch), Mask: v, Value: arch}}
			x := api.Rule{Arch: uint32(arch), Nr: uint32(v), Conds: conds, Action: uint32(v)}
			p := api.Policy{Rules: []api.Rule{x, {}, x}, Default: uint32(arch)}
			for _, d := range []api.Data{{}, full(), {Arch: uint32(arch), Nr: uint32(v)}} {
				wantFits(t, x, d, fits(x, d))
				if !policy.Right(p) {
					wantArg(t, p, d)
				} else {
					wantAsExpected(t, p, d)
				}
			}
		}
	}
}

// P0 (R3): a policy is left as it is, with what lies behind its rules and conditions.
func TestArgumentsAreLeft(t *testing.T) {
	withSpare := func() (api.Policy, []api.Rule, []api.Cond) {
		conds := []api.Cond{equal(0, 1), equal(1, 2), equal(2, 3), equal(3, 4)}
		rules := []api.Rule{rule(api.Trap, conds[:2]...), rule(api.Log), rule(api.Allow), rule(api.Kill)}
		return api.Policy{Rules: rules[:2], Default: api.Allow}, rules, conds
	}
	p, rules, conds := withSpare()
	want, wantRules, wantConds := withSpare()
	for _, v := range []uint32{api.Allow, 1} {
		p.Default, want.Default = v, v
		for _, d := range []api.Data{call(1, 2), call(), {}} {
			denote.First(p, d)
			denote.Judge(p, d)
			denote.Fits(p.Rules[0], d)
		}
		if fmt.Sprint(p, rules, conds) != fmt.Sprint(want, wantRules, wantConds) {
			t.Errorf("with Default %#x: %v, %v, %v", v, p, rules, conds)
		}
	}
}

// P0 (R3): no rules, and no conditions, are the same whether nil or empty.
func TestNilAndEmpty(t *testing.T) {
	for _, conds := range [][]api.Cond{nil, {}, make([]api.Cond, 0, 3)} {
		x := api.Rule{Arch: x64, Nr: 1, Conds: conds, Action: api.Allow}
		wantFits(t, x, call(), true)
		wantFits(t, x, api.Data{}, false)
		wantResult(t, api.Policy{Rules: []api.Rule{x}, Default: api.Trap}, call(), 0, api.Allow)
	}
	for _, rules := range [][]api.Rule{nil, {}, make([]api.Rule, 0, 3)} {
		wantResult(t, api.Policy{Rules: rules, Default: api.Trap}, call(), -1, api.Trap)
		wantArg(t, api.Policy{Rules: rules, Default: 1}, call())
	}
}

// P0 (R3, R4): nothing is kept: a result does not hang on the calls before it, nor on what a policy was.
func TestNothingIsKept(t *testing.T) {
	p := api.Policy{Rules: []api.Rule{rule(api.Allow, equal(0, 1)), rule(api.Log)}, Default: api.Trap}
	for range 3 {
		wantResult(t, p, call(1), 0, api.Allow)
		p.Rules[0].Conds[0].Value = 2
		wantResult(t, p, call(1), 1, api.Log)
		p.Rules[1].Nr = 2
		wantResult(t, p, call(1), -1, api.Trap)
		p.Default = 1
		wantArg(t, p, call(1))
		p.Rules[0].Conds[0].Value, p.Rules[1].Nr, p.Default = 1, 1, api.Trap
	}
}

// FuzzRule holds all calls against the other reading, with one condition ahead of a rule without any.
func FuzzRule(f *testing.F) {
	f.Add(uint32(x64), uint32(1), uint32(x64), uint32(1), 0, 0, uint64(0xff), uint64(5), uint64(0x105), uint32(0x7fff0000), uint32(0))
	f.Add(uint32(0), uint32(0), uint32(0), uint32(0), 6, 0, uint64(0), uint64(0), uint64(0), uint32(0), uint32(0))
	f.Add(uint32(1), uint32(2), uint32(2), uint32(1), 5, 5, uint64(1), uint64(1), uint64(0), uint32(0x50fff), uint32(0x51000))
	f.Fuzz(func(t *testing.T, arch, nr, ofArch, ofNr uint32, arg, cmp int, mask, value, n uint64, action, rest uint32) {
		d := api.Data{Arch: ofArch, Nr: ofNr}
		if arg >= 0 && arg < args {
			d.Args[arg] = n
		}
		x := api.Rule{Arch: arch, Nr: nr, Conds: []api.Cond{{Arg: arg, Cmp: cmp, Mask: mask, Value: value}}, Action: action}
		p := api.Policy{Rules: []api.Rule{x, {Arch: arch, Nr: nr, Action: api.Log}}, Default: rest}
		wantFits(t, x, d, fits(x, d))
		if policy.Right(p) {
			wantAsExpected(t, p, d)
		} else {
			wantArg(t, p, d)
		}
	})
}
