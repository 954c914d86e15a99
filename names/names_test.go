package names_test

import (
	"math"
	"regexp"
	"slices"
	"strconv"
	"strings"
	"testing"

	"hurdle/api"
	"hurdle/names"
	"hurdle/word"
)

// callTable is the document's table: a name, and its numbers on x64, x86, a64 and arm.
const callTable = `
read 0 3 63 3
write 1 4 64 4
open 2 5 - 5
close 3 6 57 6
exit 60 1 93 1
fork 57 2 - 2
kill 62 37 129 37
mmap 9 90 222 -
`

var (
	machineNames = []string{"x64", "x86", "a64", "arm"}
	machines     = []uint32{0xc000003e, 0x40000003, 0xc00000b7, 0x40000028}
	rows         = strings.Split(strings.TrimSpace(callTable), "\n")
	actionNames  = map[uint32]string{0: "kill", 0x30000: "trap", 0x7ffc0000: "log", 0x7fff0000: "allow"}

	// edges are numbers of 32 bits beside names, beside powers of two, and those that would be another's in fewer bits.
	edges = []uint32{
		0, 1, 2, 3, 4, 5, 6, 7, 8, 9, 10, 15, 16, 36, 37, 38, 56, 57, 58, 59, 60, 61, 62, 63, 64, 65, 89, 90, 91, 92, 93, 94, 127, 128, 129, 130, 221, 222, 223, 255, 256, 257, 259, 316, 0xfff, 0x1000, 0xffff, 0x10000, 0x10003, 0x1003c,
		0x2ffff, 0x30000, 0x30001, 0x4ffff, 0x50000, 0x50001, 0x50fff, 0x51000, 0x51001, 0x5ffff, 0x60000, 0x150000, 0x10050000, 0x80050000, 0x7ffbffff, 0x7ffc0000, 0x7ffc0001, 0x7ffeffff, 0x7fff0000, 0x7fff0001, 0x7fffffff, 0x80000000, 0x80000003, 0x8000003c, 0x80030000,
		0x3e, 0xb7, 0x28, 0x40000000, 0x40000002, 0x40000004, 0x40000027, 0x40000029, 0x4000003e, 0x400000b7, 0xc0000003, 0xc0000028, 0xc000003d, 0xc000003f, 0xc00000b6, 0xc00000b8, 0x8000003e, 0xfffc0000, 0xffff0000, 0xfffffffe, 0xffffffff,
	}
)

// numbers answers numbers that look mixed, the same for each seed.
func numbers(seed int) func() uint32 {
	n := uint64(seed)*2 + 1
	return func() uint32 {
		n = n*6364136223846793005 + 1442695040888963407
		return uint32(n >> 32)
	}
}

// hex answers a number's text in another way than the program.
func hex(n uint64) string {
	return "0x" + strconv.FormatUint(n, 16)
}

// machineText answers an architecture's text.
func machineText(arch uint32) string {
	if at := slices.Index(machines, arch); at >= 0 {
		return machineNames[at]
	}
	return hex(uint64(arch))
}

// callText answers a call's text: its row is looked for in the document's table.
func callText(arch, nr uint32) string {
	at := slices.Index(machines, arch)
	for _, row := range rows {
		if f := strings.Fields(row); at >= 0 && f[at+1] == strconv.FormatUint(uint64(nr), 10) {
			return f[0]
		}
	}
	return hex(uint64(nr))
}

// actionText answers an action's text; the empty one, if it is none.
func actionText(v uint32) string {
	if s := actionNames[v]; s != "" {
		return s
	}
	if v>>12 == 0x50 {
		return "error:" + hex(uint64(v&0xfff))
	}
	return ""
}

func wantMachine(t *testing.T, arch uint32) {
	t.Helper()
	want := machineText(arch)
	if s := names.Machine(arch); s != want {
		t.Errorf("Machine(%#x): %q; want %q", arch, s, want)
	}
	if n, e := names.ReadMachine(want); n != arch || e != 0 {
		t.Errorf("ReadMachine(%q): %#x, %d; want %#x", want, n, e, arch)
	}
	if s := hex(uint64(arch)); s != want {
		wantNoMachine(t, s)
	}
}

func wantNoMachine(t *testing.T, s string) {
	t.Helper()
	if n, e := names.ReadMachine(s); n != 0 || e != 2 {
		t.Errorf("ReadMachine(%q): %#x, %d; want 0, ErrForm", s, n, e)
	}
}

func wantCall(t *testing.T, arch, nr uint32) {
	t.Helper()
	want := callText(arch, nr)
	if s := names.Call(arch, nr); s != want {
		t.Errorf("Call(%#x, %#x): %q; want %q", arch, nr, s, want)
	}
	if n, e := names.ReadCall(arch, want); n != nr || e != 0 {
		t.Errorf("ReadCall(%#x, %q): %#x, %d; want %#x", arch, want, n, e, nr)
	}
	if s := hex(uint64(nr)); s != want {
		wantNoCall(t, arch, s)
	}
}

func wantNoCall(t *testing.T, arch uint32, s string) {
	t.Helper()
	if n, e := names.ReadCall(arch, s); n != 0 || e != 2 {
		t.Errorf("ReadCall(%#x, %q): %#x, %d; want 0, ErrForm", arch, s, n, e)
	}
}

func wantAction(t *testing.T, v uint32) {
	t.Helper()
	want := actionText(v)
	s, e := names.Action(v)
	if want == "" {
		if s != "" || e != 1 {
			t.Errorf("Action(%#x): %q, %d; want the empty text, ErrArg", v, s, e)
		}
		return
	}
	if s != want || e != 0 {
		t.Errorf("Action(%#x): %q, %d; want %q", v, s, e, want)
	}
	if n, e := names.ReadAction(want); n != v || e != 0 {
		t.Errorf("ReadAction(%q): %#x, %d; want %#x", want, n, e, v)
	}
}

func wantNoAction(t *testing.T, s string) {
	t.Helper()
	if v, e := names.ReadAction(s); v != 0 || e != 2 {
		t.Errorf("ReadAction(%q): %#x, %d; want 0, ErrForm", s, v, e)
	}
}

// architectures answers those with names, and others.
func architectures() []uint32 {
	return append(slices.Clone(machines), 0, 1, 3, 7, 0x28, 0x3e, 0xb7, 0x40000002, 0x40000004, 0x4000003e, 0xc0000003, 0xc0000028, 0xc000003d, 0xc000003f, 0xffffffff)
}

// P9.1, P9.2: the numbers of the actions and of the errors are the document's.
func TestNumbers(t *testing.T) {
	for v, want := range map[uint32]uint32{api.Kill: 0, api.Trap: 0x30000, api.Error: 0x50000, api.Log: 0x7ffc0000, api.Allow: 0x7fff0000} {
		if v != want {
			t.Errorf("action %#x; want %#x", v, want)
		}
	}
	for at, e := range []api.Errno{api.OK, api.ErrArg, api.ErrForm} {
		if int(e) != at {
			t.Errorf("error %d: %d", at, e)
		}
	}
}

// P9.1, P9.2: the chapter's examples.
func TestExamples(t *testing.T) {
	const x64 = 0xc000003e
	if s := names.Call(x64, 60); s != "exit" {
		t.Errorf("Call(x64, 60): %q", s)
	}
	if s := names.Call(x64, 61); s != "0x3d" {
		t.Errorf("Call(x64, 61): %q", s)
	}
	wantNoCall(t, x64, "0x3c")
	if s, e := names.Action(0x50001); s != "error:0x1" || e != 0 {
		t.Errorf("Action(0x50001): %q, %d", s, e)
	}
}

// P9.1: every number of the document's table, one by one.
func TestTable(t *testing.T) {
	for at, arch := range machines {
		if s := names.Machine(arch); s != machineNames[at] {
			t.Errorf("Machine(%#x): %q", arch, s)
		}
		named := 0
		for _, row := range rows {
			f := strings.Fields(row)
			nr, err := strconv.ParseUint(f[at+1], 10, 32)
			if err != nil {
				wantNoCall(t, arch, f[0])
				continue
			}
			named++
			if s := names.Call(arch, uint32(nr)); s != f[0] {
				t.Errorf("Call(%s, %d): %q; want %q", machineNames[at], nr, s, f[0])
			}
			if n, e := names.ReadCall(arch, f[0]); uint64(n) != nr || e != 0 {
				t.Errorf("ReadCall(%s, %q): %d, %d; want %d", machineNames[at], f[0], n, e, nr)
			}
			wantNoCall(t, arch, hex(nr))
		}
		if want := []int{8, 8, 6, 7}[at]; named != want {
			t.Errorf("%s: %d names; want %d", machineNames[at], named, want)
		}
	}
}

// P9.1, P9.3: architectures near those with names, at edges, and mixed.
func TestMachines(t *testing.T) {
	for _, n := range edges {
		wantMachine(t, n)
	}
	for _, arch := range machines {
		for bit := range 32 {
			wantMachine(t, arch^1<<bit)
			wantMachine(t, arch+1<<bit)
			wantMachine(t, arch&(1<<bit-1))
		}
	}
	next := numbers(1)
	for range 20000 {
		wantMachine(t, next()>>(next()%32))
	}
}

// P9.1, P9.3: on each architecture, every small number, those at edges, and mixed ones. On an architecture without a
// name no call has one.
func TestCalls(t *testing.T) {
	next := numbers(2)
	for _, arch := range architectures() {
		for nr := range uint32(600) {
			wantCall(t, arch, nr)
		}
		for _, nr := range edges {
			wantCall(t, arch, nr)
			wantCall(t, nr, arch)
		}
		for range 1000 {
			wantCall(t, arch, next()>>(next()%32))
			wantCall(t, next(), next()%300)
		}
	}
}

// P9.2, P9.3: all the actions that are errors, what lies beside them, and every number that has one's bits but one.
func TestActions(t *testing.T) {
	for v := uint32(0x4f000); v <= 0x53000; v++ {
		wantAction(t, v)
	}
	for _, v := range edges {
		wantAction(t, v)
	}
	for _, v := range []uint32{0, 0x30000, 0x50000, 0x50fff, 0x7ffc0000, 0x7fff0000} {
		for bit := range 32 {
			wantAction(t, v^1<<bit)
			wantAction(t, v+1<<bit)
			wantAction(t, v-1<<bit)
		}
		for n := range uint32(5000) {
			wantAction(t, v+n)
			wantAction(t, v-n)
		}
	}
	next := numbers(3)
	for range 20000 {
		wantAction(t, next()>>(next()%32))
	}
}

// P9.1, P9.2, P0 (R1): texts that neither an architecture nor a call nor an action has.
func TestRefuses(t *testing.T) {
	for _, s := range []string{
		"", " ", "\n", "\x00", "0", "1", "7", "60", "x", "0x", "0X1", "0x01", "0x00", "0x0000", "0xF", "0xA", "0xFF", "0xg", "-0x1", "+0x1", "0x-1", "0x1 ", " 0x1", "0x1\n", "0x1\x00", "0x1_0", "0x 1", "1x1", "00x1", "0x0x1", "x1",
		"0x100000000", "0x100000001", "0x10000003c", "0x1c000003e", "0xfffffffff", "0x8000000000000000", "0xffffffffffffffff", "0xffffffff00000000", "0xffffffffc000003e", "0xc000003e00000000", "0x10000000000000000", "0x1000000000000003d", "0x" + strings.Repeat("f", 100000), "0x" + strings.Repeat("0", 100000),
		"none", "-", "hay", "X64", "x640", "x6", "64", "x_64", "x86_64", "amd64", "i386", "arm64", "ARM", "Arm", "ar", "arm ", " arm", "armx", "arm\n", "x64x86", "READ", "Read", "rea", "readd", "read ", " read", "read\n", "read\x00", "reads", "reed", "openat", "exit_group", "clone", "vfork", "mmap2", "read write",
		"killl", "Kill", "KILL", "kill ", " kill", "allowed", "allow:", "allow:0x0", "allow:0x1", "log:0x0", "kill:0x0", "kill:", "trap:0x0", "error", "error:", "error: ", "error:0", "error:1", "error:0x", "error:0x1000", "error:0x1001", "error:0xffff", "error:0x10000", "error:0x50000", "error:0x50001", "error:0x7fff0000",
		"error:0x100000000", "error:0x100000001", "error:0x10000000000000000", "error:0x8000000000000000", "error:0xffffffffffffffff", "error:0x01", "error:0x00", "error:0x0fff", "error:0xFFF", "error:0X1", "error:-0x1", "error:0x1 ", "error: 0x1", "error :0x1", " error:0x1", "error:0x1\n", "Error:0x1", "ERROR:0x1", "error0x1",
		"error.0x1", "error;0x1", "error::0x1", "error:error:0x1", "error:kill", "error:allow", "error:read", "errno:0x1", "err:0x1", ":0x1", "rror:0x1", "error:0xg", "error:0x" + strings.Repeat("0", 100000), "error:0x" + strings.Repeat("f", 100000),
		"日本語", "аrm", "ｘ64", "0ｘ1", "0x１", "0x٠", "read\u00a0", "\ufeffread", "еrror:0x1", "error：0x1", "error:0x１", "\xff", "read\xff", "\xffread", "0x\xff", "error:\xff", "error:0x\xff", strings.Repeat("read", 50000), strings.Repeat("\x00", 100000),
	} {
		wantNoMachine(t, s)
		wantNoAction(t, s)
		for _, arch := range architectures() {
			wantNoCall(t, arch, s)
		}
	}
}

// P9.1, P9.2: what has a name of one kind has none of another; a number alone is no action.
func TestKinds(t *testing.T) {
	for _, s := range machineNames {
		wantNoAction(t, s)
		for _, arch := range architectures() {
			wantNoCall(t, arch, s)
		}
	}
	for _, row := range rows {
		name, _, _ := strings.Cut(row, " ")
		wantNoMachine(t, name)
		if name != "kill" {
			wantNoAction(t, name)
		}
		for _, arch := range architectures()[4:] {
			wantNoCall(t, arch, name)
		}
	}
	for _, s := range []string{"trap", "log", "allow", "error:0x0", "error:0x1", "error:0xfff"} {
		wantNoMachine(t, s)
		for _, arch := range architectures() {
			wantNoCall(t, arch, s)
		}
	}
	for _, v := range edges {
		wantNoAction(t, hex(uint64(v)))
	}
	if n, e := names.ReadAction("kill"); n != 0 || e != 0 {
		t.Errorf("ReadAction(kill): %#x, %d", n, e)
	}
}

// P9.1: the numbers that are greater than 2^32 - 1, of which some would have a name if they were cut.
func TestGreat(t *testing.T) {
	next := numbers(4)
	for at := range 20000 {
		n := uint64(next())<<32 | uint64(next()%300)
		if at%4 == 0 {
			n = n&^math.MaxUint32 | uint64(machines[at/4%4])
		}
		s := hex(max(n, 1<<32))
		wantNoMachine(t, s)
		wantNoCall(t, machines[at%4], s)
		wantNoCall(t, next(), s)
		wantNoAction(t, s)
	}
}

var (
	numberPattern = regexp.MustCompile(`\A0x(0|[1-9a-f][0-9a-f]{0,7})\z`)
	errorPattern  = regexp.MustCompile(`\Aerror:0x(0|[1-9a-f][0-9a-f]{0,2})\z`)
)

// expectNumber reads a number's text by a pattern.
func expectNumber(s string) (uint32, bool) {
	if !numberPattern.MatchString(s) {
		return 0, false
	}
	n, err := strconv.ParseUint(s[2:], 16, 32)
	return uint32(n), err == nil
}

func wantMachineRead(t *testing.T, s string) {
	t.Helper()
	if at := slices.Index(machineNames, s); at >= 0 {
		wantMachine(t, machines[at])
	} else if n, ok := expectNumber(s); ok && !slices.Contains(machines, n) {
		wantMachine(t, n)
	} else {
		wantNoMachine(t, s)
	}
}

func wantCallRead(t *testing.T, arch uint32, s string) {
	t.Helper()
	at := slices.Index(machines, arch)
	for _, row := range rows {
		if f := strings.Fields(row); at >= 0 && f[0] == s && f[at+1] != "-" {
			n, _ := strconv.ParseUint(f[at+1], 10, 32)
			wantCall(t, arch, uint32(n))
			return
		}
	}
	if n, ok := expectNumber(s); ok && callText(arch, n) == s {
		wantCall(t, arch, n)
		return
	}
	wantNoCall(t, arch, s)
}

func wantActionRead(t *testing.T, s string) {
	t.Helper()
	for v, name := range actionNames {
		if name == s {
			wantAction(t, v)
			return
		}
	}
	if errorPattern.MatchString(s) {
		n, _ := strconv.ParseUint(s[len("error:0x"):], 16, 32)
		wantAction(t, 0x50000+uint32(n))
		return
	}
	wantNoAction(t, s)
}

// wantRead holds all that read a text against the patterns.
func wantRead(t *testing.T, arch uint32, s string) {
	t.Helper()
	wantMachineRead(t, s)
	wantCallRead(t, arch, s)
	wantActionRead(t, s)
}

// near calls f with texts that lie by one change beside s.
func near(s string, f func(string)) {
	for at := range len(s) + 1 {
		f(s[:at])
		f(s[at:])
		for b := range 256 {
			f(s[:at] + string([]byte{byte(b)}) + s[at:])
			if at < len(s) {
				f(s[:at] + string([]byte{byte(b)}) + s[at+1:])
			}
		}
		for _, r := range []string{"é", "\u00a0", "０", "\ufffd", "\u0100", "0x", ":", "error:"} {
			f(s[:at] + r + s[at:])
		}
		if at < len(s) {
			f(s[:at] + s[at+1:])
		}
	}
}

// P9.1, P9.2, P9.3: the texts that lie by one change beside those of something.
func TestNear(t *testing.T) {
	texts := append(slices.Clone(machineNames), "0x3c", "0x3d", "0x0", "0xffffffff", "0xc000003e", "0x40000003", "0xc00000b7", "0x40000028", "trap", "log", "allow", "error:0x0", "error:0x1", "error:0xfff", "error:0x100")
	for _, row := range rows {
		name, _, _ := strings.Cut(row, " ")
		texts = append(texts, name)
	}
	for _, text := range texts {
		near(text, func(s string) {
			wantMachineRead(t, s)
			wantActionRead(t, s)
			for _, arch := range architectures()[:6] {
				wantCallRead(t, arch, s)
			}
		})
	}
}

// P9.1, P9.2: every two bytes behind what numbers begin with, and every rune as a digit.
func TestDigits(t *testing.T) {
	for a := range 256 {
		for b := range 256 {
			s := "0x" + string([]byte{byte(a), byte(b)})
			wantRead(t, machines[b%4], s)
			wantActionRead(t, "error:"+s)
		}
	}
	for r := rune(128); r <= 0x2ffff; r++ {
		s := "0x" + string(r)
		wantNoMachine(t, s)
		wantNoCall(t, machines[r%4], s)
		wantNoAction(t, "error:"+s)
	}
}

// P9.3: a number's text is word.Text's, wherever there is no name.
func TestInverse(t *testing.T) {
	next := numbers(5)
	for range 20000 {
		arch, nr := next()|0x100, next()|0x100
		if slices.Contains(machines, arch) {
			continue
		}
		if names.Machine(arch) != word.Text(uint64(arch)) || names.Call(arch, nr) != word.Text(uint64(nr)) || names.Call(machines[nr%4], nr) != word.Text(uint64(nr)) {
			t.Errorf("%#x, %#x: %q, %q, %q", arch, nr, names.Machine(arch), names.Call(arch, nr), names.Call(machines[nr%4], nr))
		}
		n, e := names.ReadCall(arch, names.Call(arch, nr))
		if n != nr || e != 0 {
			t.Errorf("%#x, %#x: %#x, %d", arch, nr, n, e)
		}
	}
}

// P0 (R4): the answers do not hang on the order in which a table is gone through.
func TestRepeatable(t *testing.T) {
	for range 300 {
		for at, arch := range machines {
			if s := names.Machine(arch); s != machineNames[at] {
				t.Fatalf("Machine(%#x): %q", arch, s)
			}
			for _, nr := range []uint32{0, 1, 2, 3, 5, 6, 9, 37, 57, 60, 90, 129, 222} {
				wantCall(t, arch, nr)
			}
		}
		for _, v := range []uint32{0, 0x30000, 0x50000, 0x50001, 0x50fff, 0x7ffc0000, 0x7fff0000} {
			wantAction(t, v)
		}
	}
}

func FuzzTexts(f *testing.F) {
	for _, s := range []string{"", "x64", "arm", "read", "mmap", "kill", "allow", "error:0x1", "error:0x1000", "0x3c", "0x3d", "0xc000003e", "0x100000000"} {
		f.Add(uint32(0xc000003e), s)
		f.Add(uint32(7), s)
	}
	f.Fuzz(wantRead)
}

func FuzzNumbers(f *testing.F) {
	for _, v := range edges {
		f.Add(v, v)
		f.Add(uint32(0x40000028), v)
	}
	f.Fuzz(func(t *testing.T, arch, v uint32) {
		wantMachine(t, arch)
		wantCall(t, arch, v)
		wantAction(t, v)
	})
}
