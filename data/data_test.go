package data_test

import (
	"bytes"
	"encoding/binary"
	"math"
	"testing"

	"hurdle/api"
	"hurdle/data"
)

// The tests' own numbers, written out: they are what the document names.
const (
	size  = 64
	words = 16
	args  = 6
)

// edges are words at which a byte, a sign or a place may go wrong.
var edges = []uint32{0, 1, 0x7f, 0x80, 0xff, 0x100, 0xff00, 0xff0000, 0xff000000, 0x01020304, 0x7fffffff, 0x80000000, 0xdeadbeef, 0xfffffffe, 0xffffffff}

// noWords are positions at which no word begins; many of them would be one's if they were cut to fewer bits.
func noWords() []uint32 {
	out := []uint32{
		0x80, 0xfc, 0x100, 0x104, 0x1000, 0x10000, 0x10004, 0x1000000, 0x1000004, 0x40000000, 0x40000001,
		0x7ffffffc, 0x7fffffff, 0x80000000, 0x80000004, 0xffffffc0, 0xfffffff0, 0xfffffffc, 0xfffffffd, 0xfffffffe, 0xffffffff,
	}
	for at := range uint32(300) {
		if at >= size || at%4 != 0 {
			out = append(out, at)
		}
	}
	return out
}

// noArgs are numbers that no argument has.
func noArgs() []int {
	out := []int{
		math.MinInt, math.MinInt + 1, math.MinInt32, math.MaxInt32, math.MaxInt - 1, math.MaxInt,
		math.MinInt/8 - 1, math.MinInt / 8, math.MaxInt / 8, math.MaxInt/8 + 1, 1 << 8, 1 << 16, 1 << 29, 1<<29 + 1, -(1 << 29),
	}
	for arg := -300; arg <= 300; arg++ {
		if arg < 0 || arg >= args {
			out = append(out, arg)
		}
	}
	return out
}

// numbers makes the same words for the same seed.
func numbers(seed int) func() uint32 {
	state := uint64(seed)*0x9e3779b97f4a7c15 + 1
	return func() uint32 {
		state = state*6364136223846793005 + 1442695040888963407
		return uint32(state >> 32)
	}
}

// some answers a record, which differs by the seed.
func some(seed int) api.Data {
	next := numbers(seed)
	d := api.Data{Nr: next(), Arch: next(), Ip: uint64(next())<<32 | uint64(next())}
	for i := range d.Args {
		d.Args[i] = uint64(next())<<32 | uint64(next())
	}
	return d
}

// records are the empty one, the full one, those with one edge in one place, and mixed ones.
func records() []api.Data {
	full := api.Data{Nr: math.MaxUint32, Arch: math.MaxUint32, Ip: math.MaxUint64}
	for i := range full.Args {
		full.Args[i] = math.MaxUint64
	}
	out := []api.Data{{}, full, plain()}
	for _, e := range edges {
		out = append(out, api.Data{Nr: e}, api.Data{Arch: e}, api.Data{Ip: uint64(e)}, api.Data{Ip: uint64(e) << 32})
		for i := range args {
			var low, high api.Data
			low.Args[i] = uint64(e)
			high.Args[i] = uint64(e) << 32
			out = append(out, low, high)
		}
	}
	for seed := range 100 {
		out = append(out, some(seed))
	}
	return out
}

// plain is the record whose encoding is the bytes from 1 to 64.
func plain() api.Data {
	return api.Data{
		Nr:   0x04030201,
		Arch: 0x08070605,
		Ip:   0x100f0e0d0c0b0a09,
		Args: [6]uint64{0x1817161514131211, 0x201f1e1d1c1b1a19, 0x2827262524232221, 0x302f2e2d2c2b2a29, 0x3837363534333231, 0x403f3e3d3c3b3a39},
	}
}

// plainBytes are the bytes from 1 to 64.
func plainBytes() []byte {
	b := make([]byte, size)
	for i := range b {
		b[i] = byte(i + 1)
	}
	return b
}

// bytesOf writes an encoding in another way than the program.
func bytesOf(d api.Data) []byte {
	var b []byte
	b = binary.LittleEndian.AppendUint32(b, d.Nr)
	b = binary.LittleEndian.AppendUint32(b, d.Arch)
	b = binary.LittleEndian.AppendUint64(b, d.Ip)
	for _, arg := range d.Args {
		b = binary.LittleEndian.AppendUint64(b, arg)
	}
	return b
}

// recordOf reads an encoding in another way than the program.
func recordOf(b []byte) api.Data {
	d := api.Data{Nr: binary.LittleEndian.Uint32(b), Arch: binary.LittleEndian.Uint32(b[4:]), Ip: binary.LittleEndian.Uint64(b[8:])}
	for i := range d.Args {
		d.Args[i] = binary.LittleEndian.Uint64(b[16+8*i:])
	}
	return d
}

func wantRecord(t *testing.T, b []byte, want api.Data) {
	t.Helper()
	if d, e := data.From(b); d != want || e != api.OK {
		t.Errorf("From(% x): %+v, %d; want %+v", b, d, e, want)
	}
}

func wantNoRecord(t *testing.T, b []byte, want api.Errno) {
	t.Helper()
	if d, e := data.From(b); d != (api.Data{}) || e != want {
		t.Errorf("From of %d bytes: %+v, %d; want error %d", len(b), d, e, want)
	}
}

func wantWord(t *testing.T, d api.Data, at, want uint32) {
	t.Helper()
	if w, ok := data.Word(d, at); w != want || !ok {
		t.Errorf("Word(%+v, %d): %#x, %v; want %#x", d, at, w, ok, want)
	}
}

// P4.1: the order of the parts and of their bytes, written out.
func TestBytesPlain(t *testing.T) {
	if b := data.Bytes(plain()); !bytes.Equal(b, plainBytes()) {
		t.Errorf("Bytes: % x", b)
	}
	wantRecord(t, plainBytes(), plain())
}

// P4.1: Bytes.
func TestBytes(t *testing.T) {
	for _, d := range records() {
		if b := data.Bytes(d); !bytes.Equal(b, bytesOf(d)) {
			t.Errorf("Bytes(%+v): % x; want % x", d, b, bytesOf(d))
		}
	}
}

// P4.1: From, with every byte in every place.
func TestFrom(t *testing.T) {
	for _, d := range records() {
		wantRecord(t, bytesOf(d), d)
	}
	for _, rest := range []byte{0, 0xff} {
		b := bytes.Repeat([]byte{rest}, size)
		for at := range b {
			for v := range 256 {
				b[at] = byte(v)
				wantRecord(t, b, recordOf(b))
			}
			b[at] = rest
		}
	}
}

// P4.1: too few bytes, and too many.
func TestFromLengths(t *testing.T) {
	for _, fill := range []byte{0, 1, 0xff} {
		b := bytes.Repeat([]byte{fill}, 300)
		for n := range b {
			switch {
			case n < size:
				wantNoRecord(t, b[:n], api.ErrMore)
			case n > size:
				wantNoRecord(t, b[:n], api.ErrFull)
			default:
				wantRecord(t, b[:n], recordOf(b))
			}
		}
		wantNoRecord(t, bytes.Repeat([]byte{fill}, 1<<16+size), api.ErrFull)
	}
}

// P4.1: Word.
func TestWord(t *testing.T) {
	for _, d := range records() {
		b := bytesOf(d)
		for i := range words {
			wantWord(t, d, uint32(4*i), binary.LittleEndian.Uint32(b[4*i:]))
		}
	}
}

// P4.1: which part each word is, written out.
func TestWordParts(t *testing.T) {
	d := plain()
	for i, want := range [words]uint32{
		0x04030201, 0x08070605, 0x0c0b0a09, 0x100f0e0d, 0x14131211, 0x18171615, 0x1c1b1a19, 0x201f1e1d,
		0x24232221, 0x28272625, 0x2c2b2a29, 0x302f2e2d, 0x34333231, 0x38373635, 0x3c3b3a39, 0x403f3e3d,
	} {
		wantWord(t, d, uint32(4*i), want)
	}
}

// P4.1, P4.2: where no word begins, there is none to be had or replaced.
func TestNoWord(t *testing.T) {
	for _, d := range []api.Data{{}, plain(), some(1)} {
		for _, at := range noWords() {
			if w, ok := data.Word(d, at); w != 0 || ok {
				t.Errorf("Word(%+v, %d): %#x, %v", d, at, w, ok)
			}
			for _, v := range edges {
				if x := data.With(d, at, v); x != d {
					t.Errorf("With(%+v, %d, %#x): %+v", d, at, v, x)
				}
			}
		}
	}
}

// P4.2: With replaces just these four bytes.
func TestWith(t *testing.T) {
	for _, d := range records() {
		for i := range words {
			for _, v := range edges {
				b := bytesOf(d)
				binary.LittleEndian.PutUint32(b[4*i:], v)
				if x := data.With(d, uint32(4*i), v); x != recordOf(b) {
					t.Errorf("With(%+v, %d, %#x): %+v; want %+v", d, 4*i, v, x, recordOf(b))
				}
			}
		}
	}
}

// P4.2: Low and High of the six arguments, written out.
func TestLowAndHigh(t *testing.T) {
	for arg, want := range [args]uint32{16, 24, 32, 40, 48, 56} {
		if low, high := data.Low(arg), data.High(arg); low != want || high != want+4 {
			t.Errorf("Low(%d): %d, High: %d; want %d, %d", arg, low, high, want, want+4)
		}
	}
}

// P4.2: there is no other argument.
func TestNoArgument(t *testing.T) {
	for _, arg := range noArgs() {
		if low, high := data.Low(arg), data.High(arg); low != size || high != size {
			t.Errorf("Low(%d): %d, High: %d", arg, low, high)
		}
		if _, ok := data.Word(plain(), data.Low(arg)); ok {
			t.Errorf("a word at Low(%d)", arg)
		}
	}
}

// P4.3: Bytes and From reverse each other, in both directions.
func TestInverse(t *testing.T) {
	for _, d := range records() {
		wantRecord(t, data.Bytes(d), d)
	}
	for seed := range 300 {
		next := numbers(seed)
		b := make([]byte, size)
		for i := range b {
			b[i] = byte(next())
		}
		d, e := data.From(b)
		if again := data.Bytes(d); !bytes.Equal(again, b) || e != api.OK {
			t.Errorf("Bytes(From(% x)): % x, %d", b, again, e)
		}
	}
}

// P4.4: the word that was set is there, and the others are as they were.
func TestWordOfWith(t *testing.T) {
	for _, d := range records() {
		for i := range words {
			at := uint32(4 * i)
			for _, v := range edges {
				x := data.With(d, at, v)
				for j := range words {
					want := v
					if j != i {
						want, _ = data.Word(d, uint32(4*j))
					}
					wantWord(t, x, uint32(4*j), want)
				}
			}
			was, _ := data.Word(d, at)
			if x := data.With(data.With(d, at, ^was), at, was); x != d {
				t.Errorf("With at %d, and back: %+v; want %+v", at, x, d)
			}
		}
	}
}

// P4.5: a record is determined by its words.
func TestRecordOfWords(t *testing.T) {
	for _, d := range records() {
		x := some(7)
		for i := range words {
			w, _ := data.Word(d, uint32(4*i))
			x = data.With(x, uint32(4*i), w)
		}
		if x != d {
			t.Errorf("the words of %+v make %+v", d, x)
		}
	}
	all := map[[words]uint32]api.Data{}
	for _, d := range records() {
		var ws [words]uint32
		for i := range ws {
			ws[i], _ = data.Word(d, uint32(4*i))
		}
		if x, ok := all[ws]; ok && x != d {
			t.Errorf("%+v and %+v have the same words", x, d)
		}
		all[ws] = d
	}
}

// P4.5: an argument is determined by its two words, and no other word belongs to it.
func TestArgumentOfWords(t *testing.T) {
	for _, d := range records() {
		for arg := range args {
			low, _ := data.Word(d, data.Low(arg))
			high, _ := data.Word(d, data.High(arg))
			if n := uint64(high)<<32 + uint64(low); n != d.Args[arg] {
				t.Errorf("argument %d of %+v: %#x", arg, d, n)
			}
			want := some(9)
			x := data.With(data.With(want, data.Low(arg), low), data.High(arg), high)
			want.Args[arg] = d.Args[arg]
			if x != want {
				t.Errorf("argument %d of %+v, set: %+v; want %+v", arg, d, x, want)
			}
		}
	}
}

// P0 (R3): bytes that are handed in are left as they are, with what lies behind them.
func TestBytesAreLeft(t *testing.T) {
	for _, n := range []int{0, 1, size - 1, size, size + 1, 100} {
		b := bytes.Repeat([]byte{1, 2, 3}, 50)
		data.From(b[:n])
		if !bytes.Equal(b, bytes.Repeat([]byte{1, 2, 3}, 50)) {
			t.Errorf("%d bytes were changed", n)
		}
	}
}

// P0 (R3): results are new, up to their capacity, and keep nothing of the arguments.
func TestResultsAreNew(t *testing.T) {
	d := plain()
	first := data.Bytes(d)
	for range 3 {
		b := data.Bytes(d)
		b = b[:cap(b)]
		for i := range b {
			b[i] = 0xee
		}
	}
	if !bytes.Equal(first, plainBytes()) || !bytes.Equal(data.Bytes(d), plainBytes()) {
		t.Error("two results share memory")
	}
	b := plainBytes()
	x, _ := data.From(b)
	clear(b)
	if x != plain() {
		t.Error("a result changed with an argument")
	}
}

// P0 (R3): nil and empty are alike.
func TestNilAndEmpty(t *testing.T) {
	for _, b := range [][]byte{nil, {}, make([]byte, 0, size)} {
		wantNoRecord(t, b, api.ErrMore)
	}
}

// P0 (R4): a call's result does not hang on the calls before it.
func TestCallsAreRepeatable(t *testing.T) {
	for range 3 {
		wantRecord(t, plainBytes(), plain())
		wantNoRecord(t, make([]byte, size+1), api.ErrFull)
		wantNoRecord(t, make([]byte, size-1), api.ErrMore)
		if b := data.Bytes(some(3)); !bytes.Equal(b, bytesOf(some(3))) {
			t.Errorf("Bytes: % x", b)
		}
		wantWord(t, data.With(plain(), 60, 9), 60, 9)
		wantWord(t, plain(), 60, 0x403f3e3d)
	}
}

// FuzzFrom holds From against the tests' own reading, and the way back, on any bytes.
func FuzzFrom(f *testing.F) {
	for _, n := range []int{0, 1, size - 1, size, size + 1} {
		f.Add(make([]byte, n))
	}
	f.Add(plainBytes())
	f.Fuzz(func(t *testing.T, b []byte) {
		switch {
		case len(b) < size:
			wantNoRecord(t, b, api.ErrMore)
		case len(b) > size:
			wantNoRecord(t, b, api.ErrFull)
		default:
			d := recordOf(b)
			wantRecord(t, b, d)
			if again := data.Bytes(d); !bytes.Equal(again, b) {
				t.Errorf("Bytes(%+v): % x; want % x", d, again, b)
			}
		}
	})
}
