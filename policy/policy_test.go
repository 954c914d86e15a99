package policy_test

import (
	"fmt"
	"math"
	"regexp"
	"slices"
	"strconv"
	"strings"
	"testing"

	"hurdle/api"
	"hurdle/policy"
)

// The limits that the document names.
const (
	mostRules = 64
	mostConds = 4
	mostText  = 20000
)

// The architectures with names.
const (
	x64 = 0xc000003e
	x86 = 0x40000003
	a64 = 0xc00000b7
	arm = 0x40000028
)

var (
	machineNames = map[uint32]string{x64: "x64", x86: "x86", a64: "a64", arm: "arm"}
	actionNames  = map[uint32]string{0: "kill", 0x30000: "trap", 0x7ffc0000: "log", 0x7fff0000: "allow"}
	comparisons  = []string{"eq", "ne", "lt", "le", "gt", "ge"}

	// callNames are those of chapter 9, by the architecture and the number.
	callNames = map[uint32]map[uint32]string{
		x64: {0: "read", 1: "write", 2: "open", 3: "close", 60: "exit", 57: "fork", 62: "kill", 9: "mmap"},
		x86: {3: "read", 4: "write", 5: "open", 6: "close", 1: "exit", 2: "fork", 37: "kill", 90: "mmap"},
		a64: {63: "read", 64: "write", 57: "close", 93: "exit", 129: "kill", 222: "mmap"},
		arm: {3: "read", 4: "write", 5: "open", 6: "close", 1: "exit", 2: "fork", 37: "kill"},
	}

	// noActions are numbers beside those of actions, or that would be an action's in fewer bits.
	noActions = []uint32{1, 2, 0xff, 0xfff, 0x2ffff, 0x30001, 0x3ffff, 0x40000, 0x4ffff, 0x51000, 0x5ffff, 0x60000, 0x150000, 0x80000000, 0x80030000, 0x7ffbffff, 0x7ffc0001, 0x7ffd0000, 0x7ffeffff, 0x7fff0001, 0x7fffffff, 0xfffc0000, 0xffff0000, 0xffffffff}

	// noConds are conditions that are not valid.
	noConds = []api.Cond{{Arg: -1}, {Arg: 6}, {Arg: 256}, {Cmp: -1}, {Cmp: 6}, {Cmp: 261}, {Arg: math.MinInt}, {Cmp: math.MinInt}, {Arg: math.MaxInt, Cmp: math.MaxInt}, {Arg: 1 << 32, Mask: 1, Value: 1}}
)

// numbers answers numbers that look mixed, the same for each seed.
func numbers(seed int) func() uint64 {
	n := uint64(seed)*2 + 1
	return func() uint64 {
		n = n*6364136223846793005 + 1442695040888963407
		return n>>32 ^ n<<31
	}
}

// Texts, written in another way than the program.

func machineText(arch uint32) string {
	if s := machineNames[arch]; s != "" {
		return s
	}
	return fmt.Sprintf("%#x", arch)
}

func callText(arch, nr uint32) string {
	if s := callNames[arch][nr]; s != "" {
		return s
	}
	return fmt.Sprintf("%#x", nr)
}

// actionText answers the empty text for what is no action.
func actionText(v uint32) string {
	if s := actionNames[v]; s != "" || v>>12 != 0x50 {
		return s
	}
	return fmt.Sprintf("error:%#x", v&0xfff)
}

func ruleText(x api.Rule) string {
	s := fmt.Sprintf("on %s %s %s", machineText(x.Arch), callText(x.Arch, x.Nr), actionText(x.Action))
	word := "if"
	for _, c := range x.Conds {
		s += fmt.Sprintf(" %s a%d %#x %s %#x", word, c.Arg, c.Mask, comparisons[c.Cmp], c.Value)
		word = "and"
	}
	return s + "\n"
}

func textOf(p api.Policy) string {
	s := ""
	for _, x := range p.Rules {
		s += ruleText(x)
	}
	return s + "default " + actionText(p.Default) + "\n"
}

// Texts, read in another way than the program.

const (
	numberPattern = `0x(?:0|[1-9a-f][0-9a-f]{0,15})`
	namePattern   = `([a-z0-9]+) ([a-z0-9]+) ([a-z0-9:]+)`
	condPattern   = `a[0-5] ` + numberPattern + ` (?:eq|ne|lt|le|gt|ge) ` + numberPattern
)

var (
	rulePattern    = regexp.MustCompile(`\Aon ` + namePattern + `((?: if ` + condPattern + `(?: and ` + condPattern + `){0,3})?)\n\z`)
	defaultPattern = regexp.MustCompile(`\Adefault ([a-z0-9:]+)\n\z`)
	condParts      = regexp.MustCompile(`a(.) 0x(\w+) (\w+) 0x(\w+)`)
	errorPattern   = regexp.MustCompile(`\Aerror:(` + numberPattern + `)\z`)
	isNumber       = regexp.MustCompile(`\A` + numberPattern + `\z`)
)

// named answers the number that has a text beside a table of names.
func named(table map[uint32]string, s string) (uint32, bool) {
	for n, name := range table {
		if name == s {
			return n, true
		}
	}
	n, err := strconv.ParseUint(strings.TrimPrefix(s, "0x"), 16, 32)
	if !isNumber.MatchString(s) || err != nil || table[uint32(n)] != "" {
		return 0, false
	}
	return uint32(n), true
}

func actionOf(s string) (uint32, bool) {
	for v, name := range actionNames {
		if name == s {
			return v, true
		}
	}
	m := errorPattern.FindStringSubmatch(s)
	if m == nil {
		return 0, false
	}
	n, _ := strconv.ParseUint(m[1], 0, 64)
	return 0x50000 + uint32(n), n < 0x1000
}

// ruleOf answers the rule of a line with its end.
func ruleOf(line string) (api.Rule, bool) {
	m := rulePattern.FindStringSubmatch(line)
	if m == nil {
		return api.Rule{}, false
	}
	arch, ok1 := named(machineNames, m[1])
	nr, ok2 := named(callNames[arch], m[2])
	action, ok3 := actionOf(m[3])
	x := api.Rule{Arch: arch, Nr: nr, Action: action}
	for _, c := range condParts.FindAllStringSubmatch(m[4], -1) {
		mask, _ := strconv.ParseUint(c[2], 16, 64)
		value, _ := strconv.ParseUint(c[4], 16, 64)
		x.Conds = append(x.Conds, api.Cond{Arg: int(c[1][0] - '0'), Cmp: slices.Index(comparisons, c[3]), Mask: mask, Value: value})
	}
	return x, ok1 && ok2 && ok3
}

// expect answers what Parse must answer.
func expect(s string) (api.Policy, int, api.Errno) {
	if len(s) > mostText {
		return api.Policy{}, 0, api.ErrFull
	}
	var p api.Policy
	whole, at := false, 0
	for _, line := range strings.SplitAfter(s, "\n") {
		if line == "" { // behind the last line feed
			break
		}
		m := defaultPattern.FindStringSubmatch(line)
		x, isRule := ruleOf(line)
		isDefault := false
		if m != nil {
			p.Default, isDefault = actionOf(m[1])
		}
		switch {
		case whole || !isRule && !isDefault:
			return api.Policy{}, at, api.ErrForm
		case isRule && len(p.Rules) == mostRules:
			return api.Policy{}, at, api.ErrFull
		case isRule:
			p.Rules = append(p.Rules, x)
		}
		whole = isDefault
		at += len(line)
	}
	if !whole {
		return api.Policy{}, len(s), api.ErrEnd
	}
	return p, 0, api.OK
}

func same(p, q api.Policy) bool {
	return p.Default == q.Default && slices.EqualFunc(p.Rules, q.Rules, func(x, y api.Rule) bool {
		return x.Arch == y.Arch && x.Nr == y.Nr && x.Action == y.Action && slices.Equal(x.Conds, y.Conds)
	})
}

// What the calls must answer.

// wantValid holds all calls against what they must answer for a valid policy.
func wantValid(t *testing.T, p api.Policy) {
	t.Helper()
	wantText(t, p, textOf(p))
}

func wantText(t *testing.T, p api.Policy, s string) {
	t.Helper()
	if !policy.Right(p) {
		t.Errorf("Right(%s): false", brief(p))
	}
	if got, e := policy.Print(p); got != s || e != api.OK {
		t.Errorf("Print(%s): %.200q, %d; want %.200q", brief(p), got, e, s)
	}
	if q, at, e := policy.Parse(s); !same(p, q) || at != 0 || e != api.OK {
		t.Errorf("Parse(%.200q): %s, %d, %d; want %s", s, brief(q), at, e, brief(p))
	}
}

// brief keeps the messages about long policies short.
func brief(p api.Policy) string {
	return fmt.Sprintf("%d: %.200s", len(p.Rules), fmt.Sprintf("%+v", p))
}

// wantInvalid: a policy that is not valid has no text.
func wantInvalid(t *testing.T, p api.Policy) {
	t.Helper()
	if policy.Right(p) {
		t.Errorf("Right(%s): true", brief(p))
	}
	if s, e := policy.Print(p); s != "" || e != api.ErrArg {
		t.Errorf("Print(%s): %.200q, %d; want the empty text, ErrArg", brief(p), s, e)
	}
}

// wantNoPolicy: a text that no policy has; the index and the error are told.
func wantNoPolicy(t *testing.T, s string, at int, errno api.Errno) {
	t.Helper()
	p, got, e := policy.Parse(s)
	if got != at || e != errno {
		t.Errorf("Parse(%.200q): %d, %d; want %d, %d", s, got, e, at, errno)
	}
	if len(p.Rules) != 0 || p.Default != 0 {
		t.Errorf("Parse(%.200q): %s; want the zero policy", s, brief(p))
	}
	if got > len(s) {
		t.Errorf("Parse(%.200q): %d is beyond the end", s, got)
	}
}

// wantAsExpected holds Parse against expect, and, where the text is read, Print against the text.
func wantAsExpected(t *testing.T, s string) bool {
	t.Helper()
	want, at, errno := expect(s)
	if errno != api.OK {
		wantNoPolicy(t, s, at, errno)
		return false
	}
	wantText(t, want, s)
	return true
}

// mixedCond answers a valid condition.
func mixedCond(next func() uint64) api.Cond {
	return api.Cond{Arg: int(next() % 6), Cmp: int(next() % 6), Mask: next() >> (next() % 64), Value: next() >> (next() % 64)}
}

func mixedAction(next func() uint64) uint32 {
	return []uint32{0, 0x30000, 0x7ffc0000, 0x7fff0000, 0x50000, 0x50fff, 0x50000 + uint32(next()%0x1000)}[next()%7]
}

// mixed answers a valid policy of n rules.
func mixed(n int, next func() uint64) api.Policy {
	p := api.Policy{Default: mixedAction(next)}
	for range n {
		x := api.Rule{Arch: []uint32{x64, x86, a64, arm, uint32(next())}[next()%5], Nr: uint32(next() >> (next() % 32)), Action: mixedAction(next)}
		if next()%2 == 0 {
			x.Nr %= 256
		}
		for range next() % (mostConds + 1) {
			x.Conds = append(x.Conds, mixedCond(next))
		}
		p.Rules = append(p.Rules, x)
	}
	return p
}

// one answers a policy of a single rule.
func one(x api.Rule) api.Policy {
	return api.Policy{Rules: []api.Rule{x}, Default: 0x7ffc0000}
}

// P10.1, P10.2: the limits and the errors' numbers are the document's.
func TestNumbers(t *testing.T) {
	if api.MaxRules != mostRules || api.MaxConds != mostConds || api.MaxText != mostText {
		t.Errorf("limits: %d, %d, %d", api.MaxRules, api.MaxConds, api.MaxText)
	}
	for e, want := range map[api.Errno]int{api.OK: 0, api.ErrArg: 1, api.ErrForm: 2, api.ErrFull: 3, api.ErrEnd: 5} {
		if int(e) != want {
			t.Errorf("error %d: %d", want, e)
		}
	}
}

// P10.1 to P10.3: the example of the chapter, and the sixth one of the whole document, written out.
func TestExamples(t *testing.T) {
	write := api.Rule{Arch: x64, Nr: 1, Action: 0x7fff0000}
	wantText(t, api.Policy{Rules: []api.Rule{write}}, "on x64 write allow\ndefault kill\n")
	write.Conds = []api.Cond{{Arg: 0, Cmp: 0, Mask: 0xffffffff, Value: 1}}
	wantText(t, api.Policy{Rules: []api.Rule{write}}, "on x64 write allow if a0 0xffffffff eq 0x1\ndefault kill\n")
	write.Conds = append(write.Conds, api.Cond{Arg: 5, Cmp: 5, Mask: 0xf, Value: 2}, api.Cond{Arg: 3, Cmp: 1, Value: 0xffffffffffffffff})
	other := api.Rule{Arch: 7, Nr: 1, Action: 0x5000d}
	wantText(t, api.Policy{Rules: []api.Rule{write, other}, Default: 0x50000}, "on x64 write allow if a0 0xffffffff eq 0x1 and a5 0xf ge 0x2 and a3 0x0 ne 0xffffffffffffffff\non 0x7 0x1 error:0xd\ndefault error:0x0\n")
	wantText(t, api.Policy{}, "default kill\n")
}

// P10.1, P10.2: every action, as a rule's and as the Default.
func TestActions(t *testing.T) {
	actions := []uint32{0, 0x30000, 0x7ffc0000, 0x7fff0000}
	for v := uint32(0x50000); v <= 0x50fff; v++ {
		actions = append(actions, v)
	}
	for _, v := range actions {
		wantValid(t, api.Policy{Default: v})
		wantValid(t, one(api.Rule{Arch: x86, Nr: 7, Action: v}))
	}
	for _, v := range noActions {
		wantInvalid(t, api.Policy{Default: v})
		wantInvalid(t, one(api.Rule{Arch: x86, Nr: 7, Action: v}))
		wantInvalid(t, api.Policy{Rules: []api.Rule{{}, {Action: v}, {}}})
		wantInvalid(t, api.Policy{Rules: []api.Rule{{}, {}, {}}, Default: v})
	}
}

// P10.1, P10.2: every name of a system call on every architecture, and numbers without names.
func TestNames(t *testing.T) {
	for _, arch := range []uint32{x64, x86, a64, arm, 0, 1, 0x3e, 0xc000003f, 0x4000003e, 0x7fffffff, 0xffffffff} {
		for nr := range uint32(300) {
			wantValid(t, one(api.Rule{Arch: arch, Nr: nr}))
		}
		for _, nr := range []uint32{0xffff, 0x10001, 0x7fffffff, 0x80000001, 0xffffffff} {
			wantValid(t, one(api.Rule{Arch: arch, Nr: nr}))
		}
	}
}

// P10.1: how many rules there may be.
func TestHowManyRules(t *testing.T) {
	next := numbers(1)
	for n := range mostRules + 1 {
		wantValid(t, mixed(n, next))
	}
	for _, n := range []int{mostRules + 1, mostRules + 2, 2 * mostRules, 256, 256 + mostRules, 1 << 16} {
		wantInvalid(t, mixed(n, next))
		wantInvalid(t, api.Policy{Rules: make([]api.Rule, n)})
	}
}

// P10.1: how many conditions a rule may have, at each place of a policy.
func TestHowManyConds(t *testing.T) {
	next := numbers(2)
	for _, n := range []int{0, 1, 2, 3, 4, 5, 6, 8, 64, 256, 256 + mostConds, 1 << 16} {
		for at := range 3 {
			p := mixed(3, next)
			p.Rules[at].Conds = nil
			for range n {
				p.Rules[at].Conds = append(p.Rules[at].Conds, mixedCond(next))
			}
			if n <= mostConds {
				wantValid(t, p)
			} else {
				wantInvalid(t, p)
			}
		}
	}
}

// P10.1: a condition that is not valid, at each place.
func TestInvalidConds(t *testing.T) {
	next := numbers(3)
	for _, c := range noConds {
		for _, rules := range []int{1, 3, mostRules} {
			for at := range mostConds {
				p := mixed(rules, next)
				x := &p.Rules[int(next()%uint64(rules))]
				x.Conds = []api.Cond{mixedCond(next), mixedCond(next), mixedCond(next), mixedCond(next)}
				wantValid(t, p)
				x.Conds[at] = c
				wantInvalid(t, p)
				x.Conds = x.Conds[:at+1]
				wantInvalid(t, p)
			}
		}
	}
}

// P10.1: several rules that are alike, or contradict each other, are no fault.
func TestRulesMayRepeat(t *testing.T) {
	c := api.Cond{Arg: 1, Cmp: 2, Mask: 3, Value: 4}
	x := api.Rule{Arch: arm, Nr: 37, Conds: []api.Cond{c, c, c, c}, Action: 0x30000}
	y := api.Rule{Arch: arm, Nr: 37, Conds: []api.Cond{c, c, c, c}, Action: 0x7fff0000}
	wantValid(t, api.Policy{Rules: []api.Rule{x, x, y, y, x}, Default: 0x30000})
}

const (
	rule  = "on x64 read allow\n"                    // 18 bytes
	kill  = "default kill\n"                         // 13 bytes
	under = "on arm 0x0 trap if a1 0x2 lt 0x3\n"     // 33 bytes
	five  = "on a64 0x0 log if a0 0x1 eq 0x1" + more // one condition too many
	more  = " and a0 0x1 eq 0x1 and a0 0x1 eq 0x1 and a0 0x1 eq 0x1 and a0 0x1 eq 0x1\n"
)

// P10.2, P10.4: which byte is told, and with which error.
func TestParseTellsTheByte(t *testing.T) {
	full := strings.Repeat(rule, mostRules)
	for _, c := range []struct {
		s     string
		at    int
		errno api.Errno
	}{
		// Without a default line.
		{"", 0, api.ErrEnd}, {rule, 18, api.ErrEnd}, {rule + under, 51, api.ErrEnd}, {full, 64 * 18, api.ErrEnd},
		// Without an end of the line; that counts ahead of all that the line may be.
		{"default kill", 0, api.ErrForm}, {"on x64 read allow", 0, api.ErrForm}, {"hay", 0, api.ErrForm}, {" ", 0, api.ErrForm}, {rule + "default kill", 18, api.ErrForm}, {rule + "on x64 read allow", 18, api.ErrForm}, {rule + under + "d", 51, api.ErrForm},
		{full + "on x64 read allow", 64 * 18, api.ErrForm}, {full + "default kill", 64 * 18, api.ErrForm},
		// Behind the default line nothing may stand.
		{kill + kill, 13, api.ErrForm}, {kill + rule, 13, api.ErrForm}, {kill + "\n", 13, api.ErrForm}, {kill + "hay\n", 13, api.ErrForm}, {kill + "hay", 13, api.ErrForm}, {kill + " ", 13, api.ErrForm}, {kill + "\x00", 13, api.ErrForm},
		{rule + kill + rule, 31, api.ErrForm}, {rule + kill + kill, 31, api.ErrForm}, {kill + rule + kill, 13, api.ErrForm}, {rule + kill + "on x64 read allow", 31, api.ErrForm}, {full + kill + rule, 64*18 + 13, api.ErrForm}, {full + kill + kill, 64*18 + 13, api.ErrForm},
		// An empty line is a line.
		{"\n", 0, api.ErrForm}, {"\n" + kill, 0, api.ErrForm}, {rule + "\n" + kill, 18, api.ErrForm}, {rule + "\n", 18, api.ErrForm}, {rule + under + "\n\n" + kill, 51, api.ErrForm},
		// The first wrong line counts.
		{"hay\n" + kill, 0, api.ErrForm}, {"hay\n" + full + rule, 0, api.ErrForm}, {rule + "hay\nhay\n", 18, api.ErrForm}, {rule + "hay\n" + under, 18, api.ErrForm}, {rule + "hay", 18, api.ErrForm}, {rule + "hay\n", 18, api.ErrForm}, {rule + five + kill, 18, api.ErrForm},
		// One rule too many: only where it is one.
		{full + rule, 64 * 18, api.ErrFull}, {full + rule + kill, 64 * 18, api.ErrFull}, {full + under, 64 * 18, api.ErrFull}, {full + rule + "hay", 64 * 18, api.ErrFull}, {full + full, 64 * 18, api.ErrFull}, {full + rule + "\n", 64 * 18, api.ErrFull}, {strings.Repeat(under, 65) + kill, 64 * 33, api.ErrFull},
		{full + "hay\n", 64 * 18, api.ErrForm}, {full + "\n" + kill, 64 * 18, api.ErrForm}, {full + five, 64 * 18, api.ErrForm}, {full + "on x64 0x0 allow\n", 64 * 18, api.ErrForm}, {full + "on x64 read\n" + rule, 64 * 18, api.ErrForm}, {full + "default deny\n", 64 * 18, api.ErrForm}, {full + " " + rule, 64 * 18, api.ErrForm},
	} {
		wantNoPolicy(t, c.s, c.at, c.errno)
		if _, at, e := expect(c.s); at != c.at || e != c.errno {
			t.Errorf("expect(%.200q): %d, %d", c.s, at, e)
		}
	}
	wantAsExpected(t, full+kill)
	wantAsExpected(t, strings.Repeat(under, 64)+kill)
}

// P10.2: lines that are neither a rule's nor the default line, at each place of a policy.
func TestParseRefusesLines(t *testing.T) {
	for _, line := range []string{
		"", " ", "on", "on ", "on x64", "on x64 ", "on x64 read", "on x64 read ", "on x64 read allow ", " on x64 read allow", "on  x64 read allow", "on x64  read allow", "on x64 read  allow", "on x64 read allow  ", "on x64 read allow\r", "on x64 read allow\x00",
		"on\tx64\tread\tallow", "on x64\u00a0read allow", "on x64 read allow\u2028", "\ufeffon x64 read allow", "on x64 read allow\xff", "\xff", "x64 read allow", "ON x64 read allow", "On x64 read allow", "o x64 read allow", "onx64 read allow", "on on x64 read allow", "in x64 read allow", "оn x64 read allow",
		"on X64 read allow", "on x32 read allow", "on x read allow", "on 0xc000003e 0x0 allow", "on 0xc000003e read allow", "on 0x100000000 0x0 allow", "on 0x1 read allow", "on 0x01 0x0 allow", "on 62 0x0 allow", "on 0x 0x0 allow", "on read x64 allow", "on any read allow", "on * read allow", "on 0x1c000003e read allow",
		"on x64 0x0 allow", "on x64 0x3c allow", "on arm mmap allow", "on a64 open allow", "on a64 fork allow", "on x64 Read allow", "on x64 reads allow", "on x64 0x00 allow", "on x64 5 allow", "on x64 0x100000000 allow", "on x64 0x100000001 allow", "on x64 0xG allow", "on x64 0X5 allow", "on x64 -0x1 allow", "on x64 sleep allow",
		"on x64 read", "on x64 read deny", "on x64 read Allow", "on x64 read allowed", "on x64 read error", "on x64 read error:", "on x64 read error:0x1000", "on x64 read error:0x00", "on x64 read error:1", "on x64 read error:0xD", "on x64 read error: 0x1", "on x64 read error :0x1", "on x64 read error:0x10000000000000001", "on x64 read 0x0", "on x64 read 0x7fff0000", "on x64 read allow:0x0", "on x64 read error:0x1 0x1", "on x64 allow read",
		"on x64 read allow if", "on x64 read allow if ", "on x64 read allow and", "on x64 read allow a0 0x1 eq 0x1", "on x64 read allow and a0 0x1 eq 0x1", "on x64 read allow if a0", "on x64 read allow if a0 0x1", "on x64 read allow if a0 0x1 eq", "on x64 read allow if a0 0x1 eq ", "on x64 read allow if a0 0x1 eq 0x1 ", "on x64 read allow if  a0 0x1 eq 0x1", "on x64 read allow  if a0 0x1 eq 0x1", "on x64 read allow if a0  0x1 eq 0x1",
		"on x64 read allow if a0 0x1 eq 0x1 if", "on x64 read allow if a0 0x1 eq 0x1 and", "on x64 read allow if a0 0x1 eq 0x1 and ", "on x64 read allow if a0 0x1 eq 0x1 if a0 0x1 eq 0x1", "on x64 read allow if a0 0x1 eq 0x1 a0 0x1 eq 0x1", "on x64 read allow if a0 0x1 eq 0x1 or a0 0x1 eq 0x1", "on x64 read allow if a0 0x1 eq 0x1  and a0 0x1 eq 0x1", "on x64 read allow if a0 0x1 eq 0x1 and  a0 0x1 eq 0x1", "on x64 read allow if a0 0x1 eq 0x1 and a0 0x1 eq", "on x64 read allow if a0 0x1 eq 0x1 and a0 0x1 eq 0x1 if a0 0x1 eq 0x1", "on x64 read allow if a0 0x1 eq 0x1 and and a0 0x1 eq 0x1", "on x64 read allow if if a0 0x1 eq 0x1", "on x64 read allow if and a0 0x1 eq 0x1",
		"on x64 read allow IF a0 0x1 eq 0x1", "on x64 read allow when a0 0x1 eq 0x1", "on x64 read allow if a6 0x1 eq 0x1", "on x64 read allow if a0 1 eq 0x1", "on x64 read allow if a0 0x1 == 0x1", "on x64 read allow if a0 0x1 eq 1", "on x64 read allow if a0 0x1 eq 0x10000000000000000", "on x64 read allow if a0 0x01 eq 0x1", "on x64 read allow if not a0 0x1 eq 0x1", "on x64 read allow if a0 0x1 eq 0x1 allow", "on x64 read if a0 0x1 eq 0x1 allow", "on x64 read if a0 0x1 eq 0x1", "if a0 0x1 eq 0x1 on x64 read allow", "on x64 read allow if a0 0x1 eq 0x1 default kill", "on x64 read allow default kill", "on x64 read allow on x64 read allow",
		"default", "default ", "default  kill", "default kill ", " default kill", "default kill kill", "default\tkill", "default kill\r", "defaultkill", "Default kill", "default Kill", "default deny", "default 0x0", "default error", "default error:", "default error:0x1000", "default error:13", "default error:0xfff0", "default: kill", "defaults kill", "default default kill", "default on x64 read allow", "default read", "default kill if a0 0x1 eq 0x1", "default kill and", "default kill if", "on default kill", "on x64 default kill", "kill", "allow", "default kill\x00", "défault kill", "default kıll",
		"# on x64 read allow", "on x64 read allow # yes", "// default kill", ";", "on x64 read allow;", "on,x64,read,allow", "on x64 read allow / default kill",
		strings.TrimSuffix(five, "\n"), "on x64 read allow if a0 0x1 eq 0x1" + strings.TrimSuffix(more, "\n") + strings.TrimSuffix(more, "\n"),
		strings.Repeat(" ", 5000), strings.Repeat("on ", 3000), strings.Repeat("x", 5000), "on x64 read allow if a0 0x" + strings.Repeat("f", 5000) + " eq 0x1", "on x64 read allow" + strings.Repeat(" and a0 0x1 eq 0x1", 300), "on x64 read allow" + strings.Repeat(" ", 5000),
	} {
		for _, c := range []struct{ ahead, behind string }{{"", ""}, {"", kill}, {rule, kill}, {rule + under, rule + kill}, {strings.Repeat(under, mostRules), kill}, {kill, ""}, {rule + kill, kill}} {
			wantNoPolicy(t, c.ahead+line+"\n"+c.behind, len(c.ahead), api.ErrForm)
			if line != "" {
				wantNoPolicy(t, c.ahead+line, len(c.ahead), api.ErrForm)
			}
		}
	}
}

// P10.2: a text may have MaxText bytes; a longer one is refused ahead of all else.
func TestParseLength(t *testing.T) {
	for _, s := range []string{"\n", " ", "x", rule, kill, kill + rule, "hay\n" + kill} {
		long := strings.Repeat(s, mostText/len(s)+2)
		for n := mostText - 2; n <= mostText+2; n++ {
			wantAsExpected(t, long[:n])
		}
	}
	next := numbers(4)
	for _, p := range []api.Policy{mixed(0, next), mixed(5, next), mixed(mostRules, next)} {
		s := textOf(p)
		room := mostText - len(s)
		wantNoPolicy(t, s+strings.Repeat("x", room), len(s), api.ErrForm)
		wantNoPolicy(t, s+strings.Repeat("x", room-1)+"\n", len(s), api.ErrForm)
		wantNoPolicy(t, s+strings.Repeat("x", room+1), 0, api.ErrFull)
		wantNoPolicy(t, s+strings.Repeat("x", room)+"\n", 0, api.ErrFull)
	}
	head := "on x64 read allow"
	wantNoPolicy(t, rule+head+strings.Repeat("\xff", mostText-len(rule)-len(head)), len(rule), api.ErrForm)
	wantNoPolicy(t, strings.Repeat("é", mostText/2), 0, api.ErrForm)
	wantNoPolicy(t, strings.Repeat("é", mostText/2+1), 0, api.ErrFull)
	wantNoPolicy(t, strings.Repeat("x", 1<<20), 0, api.ErrFull)
}

// P10.2, P10.3: the policy with the longest text is read, too.
func TestLongestText(t *testing.T) {
	p := api.Policy{Default: 0x50fff}
	for at := range mostRules {
		x := api.Rule{Arch: math.MaxUint32 - uint32(at), Nr: math.MaxUint32, Action: 0x50fff}
		for arg := range mostConds {
			x.Conds = append(x.Conds, api.Cond{Arg: arg, Cmp: at % 6, Mask: math.MaxUint64, Value: math.MaxUint64 - uint64(at)})
		}
		p.Rules = append(p.Rules, x)
	}
	if s := textOf(p); len(s) > mostText {
		t.Fatalf("%d bytes", len(s))
	}
	wantValid(t, p)
}

// P10.2: all short orders of lines of each kind, with an end of the last one and without.
func TestParseOrders(t *testing.T) {
	lines := []string{rule, under, kill, five, "\n", "on x64 read allow \n", "default error:0xfff\n"}
	read := 0
	var grow func(s string, n int)
	grow = func(s string, n int) {
		if wantAsExpected(t, s) {
			read++
		}
		wantAsExpected(t, strings.TrimSuffix(s, "\n"))
		if n == 4 {
			return
		}
		for _, line := range lines {
			grow(s+line, n+1)
		}
	}
	grow("", 0)
	// Two rules, 0 to 3 of them, ahead of two default lines.
	if want := 2 * (1 + 2 + 4 + 8); read != want {
		t.Errorf("%d texts were read; want %d", read, want)
	}
}

// P10.2: all short orders of words in a line.
func TestParseWords(t *testing.T) {
	words := []string{"on", "x64", "read", "allow", "default", "kill", "if", "and", "a0 0x1 eq 0x1", "0x5", ""}
	read := 0
	var grow func(line string, n int)
	grow = func(line string, n int) {
		if wantAsExpected(t, line+"\ndefault kill\n") {
			read++
		}
		if wantAsExpected(t, line+"\n") {
			read++
		}
		if n == 5 {
			return
		}
		for _, word := range words {
			grow(line+" "+word, n+1)
		}
	}
	for _, word := range words {
		grow(word, 1)
	}
	// As a rule: x64 with three texts of calls, 0x5 with one; as the default line: allow and kill. On x64, kill is both.
	if want := 3*2 + 2 + 2; read != want {
		t.Errorf("%d texts were read; want %d", read, want)
	}
}

// P10.2: up to six conditions, behind each of the words.
func TestParseConds(t *testing.T) {
	var grow func(line string, n int, ok bool)
	grow = func(line string, n int, ok bool) {
		s := rule + line + "\n" + kill
		if wantAsExpected(t, s) != (ok && n <= mostConds) {
			t.Errorf("Parse(%q): want it read: %v", s, ok)
		}
		if n == 6 {
			return
		}
		c := fmt.Sprintf(" a%d %#x %s %#x", n%6, n, comparisons[n%6], n+1)
		grow(line+" if"+c, n+1, ok && n == 0)
		grow(line+" and"+c, n+1, ok && n > 0)
		grow(line+c, n+1, false)
	}
	grow("on x86 exit log", 0, true)
}

// P10.2, P10.3: texts by one change beside a policy's.
func TestParseNearTexts(t *testing.T) {
	const s = "on x64 exit allow if a0 0xff eq 0x1 and a5 0x1 ge 0x0\non 0x9 0x3c error:0xd\ndefault trap\n"
	read := 0
	ask := func(s string) {
		if wantAsExpected(t, s) {
			read++
		}
	}
	for at := range len(s) + 1 {
		for c := range 256 {
			b := string([]byte{byte(c)})
			ask(s[:at] + b + s[at:])
			if at < len(s) {
				ask(s[:at] + b + s[at+1:])
			}
		}
		for _, c := range []string{"\n\n", "\r\n", rule, "\n" + rule, kill, " and", "  ", "é", "\u00a0", "\u0120", "\u2028", "\u0a20", "\ufffd"} {
			ask(s[:at] + c + s[at:])
		}
		if at < len(s) {
			ask(s[:at] + s[at+1:])
		}
		ask(s[:at])
		ask(s[at:])
	}
	if read < 200 {
		t.Errorf("%d texts were read", read)
	}
}

// P10.2: every rune in the place of a space and of a line feed, and behind the text.
func TestParseRunes(t *testing.T) {
	for r := range rune(0x3000) {
		if r == ' ' || r == '\n' {
			continue
		}
		c := string(r)
		wantNoPolicy(t, rule+"on x64"+c+"write allow\n"+kill, 18, api.ErrForm)
		wantNoPolicy(t, rule+"on x64 write allow"+c+"default kill\n", 18, api.ErrForm)
		wantNoPolicy(t, rule+kill+c, 31, api.ErrForm)
	}
}

// P10.3: texts and policies, back and forth.
func TestInverse(t *testing.T) {
	next := numbers(5)
	for n := range 3000 {
		p := mixed(n%20, next)
		s, e := policy.Print(p)
		q, at, e2 := policy.Parse(s)
		if !same(p, q) || e != 0 || at != 0 || e2 != 0 {
			t.Errorf("%s: %q, %d; %s, %d, %d", brief(p), s, e, brief(q), at, e2)
		}
		if back, e := policy.Print(q); back != s || e != 0 {
			t.Errorf("Print(Parse(%q)): %q, %d", s, back, e)
		}
		wantValid(t, p)
	}
}

// P10.2, P10.4: mixed policies' texts with some lines left out, twice or in other places.
func TestParseMixedLines(t *testing.T) {
	next := numbers(6)
	errors := map[api.Errno]int{}
	for n := range 3000 {
		lines := strings.SplitAfter(textOf(mixed(n%70, next)), "\n")
		for range next() % 3 {
			i, j := int(next()%uint64(len(lines))), int(next()%uint64(len(lines)))
			switch next() % 4 {
			case 0:
				lines[i], lines[j] = lines[j], lines[i]
			case 1:
				lines[i] = ""
			case 2:
				lines[i] += lines[j]
			case 3:
				lines[i] = lines[i][:int(next()%uint64(len(lines[i])+1))]
			}
		}
		s := strings.Join(lines, "")
		wantAsExpected(t, s)
		_, _, e := policy.Parse(s)
		errors[e]++
	}
	for _, e := range []api.Errno{api.OK, api.ErrForm, api.ErrFull, api.ErrEnd} {
		if errors[e] < 20 {
			t.Errorf("error %d: %d times", e, errors[e])
		}
	}
}

// clone answers a policy that shares no memory with p, spare memory included.
func clone(p api.Policy) api.Policy {
	rules := slices.Clone(p.Rules[:cap(p.Rules)])
	for i, x := range rules {
		rules[i].Conds = slices.Clone(x.Conds[:cap(x.Conds)])[:len(x.Conds)]
	}
	p.Rules = rules[:len(p.Rules)]
	return p
}

func sameWithSpare(p, q api.Policy) bool {
	if len(p.Rules) != len(q.Rules) || p.Default != q.Default {
		return false
	}
	return slices.EqualFunc(p.Rules[:cap(p.Rules)], q.Rules[:cap(p.Rules)], func(x, y api.Rule) bool {
		return x.Arch == y.Arch && x.Nr == y.Nr && x.Action == y.Action && slices.Equal(x.Conds[:cap(x.Conds)], y.Conds[:cap(x.Conds)])
	})
}

// P0 (R3): arguments are left as they are, with what lies behind their ends.
func TestArgumentsAreLeft(t *testing.T) {
	next := numbers(7)
	for n := range 200 {
		p := mixed(n%70+3, next)
		for i := range p.Rules {
			c := mixedCond(next)
			p.Rules[i].Conds = slices.Grow(append(p.Rules[i].Conds, c), 3)[:len(p.Rules[i].Conds)]
		}
		if n%3 == 0 {
			p.Rules[0].Conds = append(p.Rules[0].Conds, noConds[n%len(noConds)])
		}
		p.Rules = p.Rules[:n%70]
		was := clone(p)
		policy.Right(p)
		policy.Print(p)
		if !sameWithSpare(p, was) {
			t.Errorf("changed: %s", brief(was))
		}
	}
}

// scribble writes over all memory that a result has, up to its capacity.
func scribble(p api.Policy) {
	for i, x := range p.Rules[:cap(p.Rules)] {
		conds := x.Conds[:cap(x.Conds)]
		for j := range conds {
			conds[j] = api.Cond{Arg: -i - 1, Cmp: -j - 1}
		}
		p.Rules[:cap(p.Rules)][i] = api.Rule{Arch: 1, Nr: 2, Action: 3}
	}
}

// P0 (R3): results are new: what is written over them is seen in no other result.
func TestResultsAreNew(t *testing.T) {
	next := numbers(8)
	for n := range 70 {
		want := mixed(n%(mostRules+1), next)
		s := textOf(want)
		first, _, _ := policy.Parse(s)
		second, _, _ := policy.Parse(s)
		scribble(second)
		third, _, _ := policy.Parse(s)
		if !same(first, want) || !same(third, want) {
			t.Errorf("two results share memory: %s", brief(want))
		}
	}
}

// P0 (R3): no two lists of one result share memory, their spare memory included.
func TestListsAreApart(t *testing.T) {
	next := numbers(9)
	for range 50 {
		p, _, _ := policy.Parse(textOf(mixed(mostRules, next)))
		want := clone(p)
		for i, x := range p.Rules {
			conds := x.Conds[:cap(x.Conds)]
			was := slices.Clone(conds)
			for j := range conds {
				conds[j] = api.Cond{Arg: -i - 1}
			}
			for k, y := range p.Rules {
				if k != i && !slices.Equal(y.Conds, want.Rules[k].Conds) {
					t.Errorf("the conditions of the rules %d and %d share memory", i, k)
				}
			}
			copy(conds, was)
		}
	}
}

// P0 (R3): nil and empty are alike.
func TestNilAndEmpty(t *testing.T) {
	for _, rules := range [][]api.Rule{nil, {}, make([]api.Rule, 0, 5)} {
		wantText(t, api.Policy{Rules: rules, Default: 0x30000}, "default trap\n")
	}
	for _, conds := range [][]api.Cond{nil, {}, make([]api.Cond, 0, 5)} {
		wantText(t, one(api.Rule{Arch: x64, Conds: conds}), "on x64 read kill\ndefault log\n")
	}
}

// P0 (R4): a call's result does not hang on the calls before it.
func TestCallsAreRepeatable(t *testing.T) {
	for range 3 {
		next := numbers(10)
		wantValid(t, mixed(mostRules, next))
		wantInvalid(t, mixed(mostRules+1, next))
		wantNoPolicy(t, kill+rule, 13, api.ErrForm)
		wantNoPolicy(t, strings.Repeat(rule, 65), 64*18, api.ErrFull)
		wantNoPolicy(t, rule, 18, api.ErrEnd)
		wantNoPolicy(t, strings.Repeat("x", mostText+1), 0, api.ErrFull)
		wantValid(t, api.Policy{})
	}
}

// P10.1 to P10.4, P0 (R1, R2): any text.
func FuzzParse(f *testing.F) {
	for _, s := range []string{"", kill, rule, rule + under + kill, five + kill, kill + rule, "default kill", "\n", strings.Repeat(rule, 65), strings.Repeat(rule, 64) + kill, rule + "on x64 read allow \n", "on 0x9 0x1 error:0xfff\n\xff é"} {
		f.Add(s)
	}
	f.Fuzz(func(t *testing.T, s string) { wantAsExpected(t, s) })
}

// P10.1, P10.3, P0 (R1): any numbers in a policy of two rules.
func FuzzPrint(f *testing.F) {
	f.Add(uint32(x64), uint32(60), uint32(0x7fff0000), uint32(0), 0, 0, uint64(0xff), uint64(5))
	f.Add(uint32(1), uint32(2), uint32(0x50fff), uint32(0x51000), 5, 5, uint64(0), uint64(math.MaxUint64))
	f.Add(uint32(0), uint32(0), uint32(0), uint32(0), 6, -1, uint64(1), uint64(1))
	f.Fuzz(func(t *testing.T, arch, nr, action, otherwise uint32, arg, cmp int, mask, value uint64) {
		c := api.Cond{Arg: arg, Cmp: cmp, Mask: mask, Value: value}
		p := api.Policy{Rules: []api.Rule{{Arch: arch, Nr: nr, Action: action}, {Arch: nr, Nr: arch, Conds: []api.Cond{c, c}}}, Default: otherwise}
		if actionText(action) == "" || actionText(otherwise) == "" || arg < 0 || arg > 5 || cmp < 0 || cmp > 5 {
			wantInvalid(t, p)
			return
		}
		wantValid(t, p)
	})
}
