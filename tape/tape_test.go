package tape_test

import (
	"encoding/binary"
	"maps"
	"math"
	"math/rand"
	"slices"
	"strings"
	"testing"

	"bondstore/api"
	"bondstore/tape"
)

// numbers are such at which a byte or the sign turns, and others.
func numbers() []int {
	list := []int{0, 1, 2, 44, 258, 300, 0x01020304, 0x0102030405060708, -2, -258, -0x0102030405060708, math.MaxInt, math.MinInt, math.MinInt + 1}
	for bit := range 63 {
		list = append(list, 1<<bit, 1<<bit-1, -1<<bit, ^(-1 << bit), -1<<bit-1)
	}
	random := rand.New(rand.NewSource(3))
	for range 200 {
		list = append(list, int(random.Uint64()))
	}
	return list
}

// wides are numbers of 128 bits at which a word turns, and others.
func wides() []api.Num {
	list := []api.Num{
		{}, {Lo: 1}, {Lo: 255}, {Lo: 256}, {Lo: math.MaxUint64}, {Hi: 1}, {Hi: 1, Lo: 2}, {Hi: 1 << 63}, {Hi: math.MaxUint64},
		{Hi: math.MaxUint64, Lo: math.MaxUint64}, {Hi: 0x0102030405060708, Lo: 0x090a0b0c0d0e0f10},
	}
	random := rand.New(rand.NewSource(16))
	for range 50 {
		list = append(list, api.Num{Hi: random.Uint64(), Lo: random.Uint64()})
	}
	return list
}

// sizes are those that may be asked for, each with the one that is taken for it.
var sizes = map[int]int{
	1: 1, 2: 2, 3: 3, 4: 4, 5: 5, 6: 6, 7: 7, 8: 8,
	0: 1, -1: 1, -2: 1, -7: 1, -8: 1, -255: 1, math.MinInt + 1: 1, math.MinInt: 1,
	9: 8, 10: 8, 11: 8, 16: 8, 64: 8, 255: 8, 256: 8, 257: 8, 1 << 32: 8, math.MaxInt - 1: 8, math.MaxInt: 8,
}

// bytesOf answers a number's lowest bytes, as the library lays them.
func bytesOf(n, size int) string {
	var b [8]byte
	binary.LittleEndian.PutUint64(b[:], uint64(n))
	return string(b[:size])
}

// numOf answers the number of those bytes.
func numOf(s string) int {
	var b [8]byte
	copy(b[:], s)
	return int(binary.LittleEndian.Uint64(b[:]))
}

// wideBytes answers the sixteen of a number of 128 bits, and wideOf the number of those.
func wideBytes(n api.Num) string {
	return string(binary.LittleEndian.AppendUint64(binary.LittleEndian.AppendUint64(nil, n.Lo), n.Hi))
}

func wideOf(s string) api.Num {
	return api.Num{Hi: binary.LittleEndian.Uint64([]byte(s[8:])), Lo: binary.LittleEndian.Uint64([]byte(s))}
}

// take is one call that takes something.
type take struct {
	name string
	size int // of so many bytes
	call func(r *tape.Reader) any
	want func(s string) any // of bytes that are there; nil: they are none of the kind
	none any                // of a reader that is torn
}

func raw(n int) take {
	return take{"Raw", n, func(r *tape.Reader) any { return r.Raw(n) }, func(s string) any { return s }, ""}
}

func number(asked, size int) take {
	return take{"Int", size, func(r *tape.Reader) any { return r.Int(asked) }, func(s string) any { return numOf(s) }, 0}
}

func wide() take {
	return take{"Num", 16, func(r *tape.Reader) any { return r.Num() }, func(s string) any { return wideOf(s) }, api.Num{}}
}

func flag() take {
	return take{"Flag", 1, func(r *tape.Reader) any { return r.Flag() }, func(s string) any {
		if s[0] > 1 {
			return nil
		}
		return s[0] == 1
	}, false}
}

// takes are calls of all kinds and sizes.
func takes() []take {
	list := []take{wide(), flag()}
	for _, n := range []int{0, 1, 2, 3, 5, 16, 17, 100, math.MaxInt, -1, -2, math.MinInt} {
		list = append(list, raw(n))
	}
	// In order, so that what is drawn from them is the same in each run.
	for _, asked := range slices.Sorted(maps.Keys(sizes)) {
		list = append(list, number(asked, sizes[asked]))
	}
	return list
}

// model is a reader as the document tells it.
type model struct {
	s    string
	torn bool
}

func (m *model) take(c take) any {
	if m.torn {
		return c.none
	}
	if c.size < 0 || c.size > len(m.s) {
		m.s, m.torn = "", true
		return c.none
	}
	got := c.want(m.s[:c.size])
	m.s = m.s[c.size:]
	if got == nil {
		m.s, m.torn = "", true
		return c.none
	}
	return got
}

// state holds what a reader says of itself against what it must.
func state(t *testing.T, r *tape.Reader, torn bool, left int) {
	t.Helper()
	if r.Torn() != torn || r.Left() != left || r.End() != (!torn && left == 0) {
		t.Fatalf("Torn %v, Left %d, End %v; not %v, %d, %v", r.Torn(), r.Left(), r.End(), torn, left, !torn && left == 0)
	}
}

// nothing asks a reader that is torn for all there is.
func nothing(t *testing.T, r *tape.Reader) {
	t.Helper()
	state(t, r, true, 0)
	for _, c := range takes() {
		if got := c.call(r); got != c.none {
			t.Fatalf("%s of %d bytes, torn: %v", c.name, c.size, got)
		}
		state(t, r, true, 0)
	}
}

func TestP3_1IntIsPut(t *testing.T) {
	for asked, size := range sizes {
		for _, n := range numbers() {
			var w tape.Writer
			w.Int(asked, n)
			if s := w.String(); s != bytesOf(n, size) || w.Len() != size {
				t.Fatalf("Int(%d, %d): %x, %d bytes", asked, n, s, w.Len())
			}
		}
	}
}

func TestP3_1KnownInts(t *testing.T) {
	for _, c := range []struct {
		size, n int
		bytes   string
		taken   int
	}{
		{1, 0, "\x00", 0},
		{1, 300, "\x2c", 44},
		{1, -1, "\xff", 255},
		{1, 128, "\x80", 128},
		{2, 258, "\x02\x01", 258},
		{2, -2, "\xfe\xff", 65534},
		{3, 0x01020304, "\x04\x03\x02", 0x020304},
		{4, 0x01020304, "\x04\x03\x02\x01", 0x01020304},
		{4, 1 << 31, "\x00\x00\x00\x80", 1 << 31},
		{4, -1, "\xff\xff\xff\xff", 1<<32 - 1},
		{5, 1 << 39, "\x00\x00\x00\x00\x80", 1 << 39},
		{6, 1 << 48, "\x00\x00\x00\x00\x00\x00", 0},
		{7, -1, "\xff\xff\xff\xff\xff\xff\xff", 1<<56 - 1},
		{7, math.MinInt, "\x00\x00\x00\x00\x00\x00\x00", 0},
		{8, 1, "\x01\x00\x00\x00\x00\x00\x00\x00", 1},
		{8, -2, "\xfe\xff\xff\xff\xff\xff\xff\xff", -2},
		{8, math.MaxInt, "\xff\xff\xff\xff\xff\xff\xff\x7f", math.MaxInt},
		{8, math.MinInt, "\x00\x00\x00\x00\x00\x00\x00\x80", math.MinInt},
		{0, 258, "\x02", 2},
		{-1, -1, "\xff", 255},
		{9, -1, "\xff\xff\xff\xff\xff\xff\xff\xff", -1},
		{255, 258, "\x02\x01\x00\x00\x00\x00\x00\x00", 258},
	} {
		var w tape.Writer
		w.Int(c.size, c.n)
		if w.String() != c.bytes {
			t.Errorf("Int(%d, %d): %x", c.size, c.n, w.String())
		}
		r := tape.Read(c.bytes + "behind")
		if n := r.Int(c.size); n != c.taken || r.Torn() || r.Raw(6) != "behind" || !r.End() {
			t.Errorf("Int(%d) of %x: %d", c.size, c.bytes, n)
		}
	}
}

func TestP3_1IntIsTaken(t *testing.T) {
	for asked, size := range sizes {
		for _, n := range numbers() {
			s := bytesOf(n, size)
			r := tape.Read(s + "\xff\x01")
			got := r.Int(asked)
			if got != numOf(s) || size < 8 && (got < 0 || got >= 1<<(8*size)) || size == 8 && got != n {
				t.Fatalf("Int(%d) of %x: %d", asked, s, got)
			}
			state(t, r, false, 2)
		}
	}
}

func TestP3_1Num(t *testing.T) {
	for _, n := range wides() {
		var w tape.Writer
		w.Num(n)
		if s := w.String(); s != wideBytes(n) || w.Len() != 16 {
			t.Errorf("Num(%v): %x, %d bytes", n, s, w.Len())
		}
		r := tape.Read(wideBytes(n) + "\xff")
		if got := r.Num(); got != n {
			t.Errorf("Num of %x: %v", wideBytes(n), got)
		}
		state(t, r, false, 1)
	}
	var w tape.Writer
	w.Num(api.Num{Hi: 0x0102030405060708, Lo: 0x090a0b0c0d0e0f10})
	if w.String() != "\x10\x0f\x0e\x0d\x0c\x0b\x0a\x09\x08\x07\x06\x05\x04\x03\x02\x01" {
		t.Errorf("%x", w.String())
	}
}

func TestP3_1FlagIsPut(t *testing.T) {
	var w tape.Writer
	for _, yes := range []bool{true, false, false, true, true} {
		w.Flag(yes)
	}
	if w.String() != "\x01\x00\x00\x01\x01" || w.Len() != 5 {
		t.Errorf("%x", w.String())
	}
}

func TestP3_1FlagIsTaken(t *testing.T) {
	for b := range 256 {
		r := tape.Read(string([]byte{byte(b), 1, 1}))
		yes := r.Flag()
		if yes != (b == 1) {
			t.Errorf("Flag of %02x: %v", b, yes)
		}
		if b > 1 {
			nothing(t, r)
		} else {
			state(t, r, false, 2)
		}
	}
	// Of one bit that is set, or a digit, it isn't yes.
	for _, s := range []string{"", "1", "0", "\x02\x01", "\x81", "\xff", "\x80"} {
		r := tape.Read(s)
		if r.Flag() {
			t.Errorf("Flag of %x", s)
		}
		nothing(t, r)
	}
}

func TestP3_1RawIsPut(t *testing.T) {
	var w tape.Writer
	want := ""
	for _, s := range []string{"", "a", "", "\x00", "\xff\xfe", "\u20ac", strings.Repeat("long", 1<<12), "", "xyz"} {
		w.Raw(s)
		want += s
		if w.String() != want || w.Len() != len(want) {
			t.Fatalf("behind %d bytes: %d", len(want), w.Len())
		}
	}
}

func TestP3_1RawIsTaken(t *testing.T) {
	r := tape.Read("\x00abc\xff\u20ac")
	for _, c := range []struct {
		n    int
		want string
		left int
	}{{0, "", 8}, {1, "\x00", 7}, {3, "abc", 4}, {0, "", 4}, {2, "\xff\xe2", 2}, {2, "\x82\xac", 0}, {0, "", 0}} {
		if s := r.Raw(c.n); s != c.want {
			t.Errorf("Raw(%d): %x", c.n, s)
		}
		state(t, r, false, c.left)
	}
	if s := r.Raw(1); s != "" {
		t.Errorf("behind the end: %x", s)
	}
	nothing(t, r)
}

func TestP3_1RawOfTooMany(t *testing.T) {
	for _, s := range []string{"", "a", "abc", strings.Repeat("\x01", 200)} {
		for _, n := range []int{-1, -2, -len(s), -1 << 32, math.MinInt, len(s) + 1, len(s) + 2, 1 << 32, math.MaxInt} {
			if n == 0 {
				continue
			}
			r := tape.Read(s)
			if got := r.Raw(n); got != "" {
				t.Errorf("Raw(%d) of %d bytes: %x", n, len(s), got)
			}
			nothing(t, r)
		}
	}
}

func TestP3_1EmptyWriter(t *testing.T) {
	var w tape.Writer
	for _, w := range []*tape.Writer{&w, {}, new(tape.Writer)} {
		if w.Len() != 0 || w.String() != "" {
			t.Errorf("%d bytes: %x", w.Len(), w.String())
		}
		w.Raw("")
		if w.Len() != 0 || w.String() != "" {
			t.Errorf("with nothing put, %d bytes: %x", w.Len(), w.String())
		}
	}
}

func TestP3_1NilWriter(t *testing.T) {
	var w *tape.Writer
	w.Int(8, 1)
	w.Num(api.Num{Lo: 1})
	w.Flag(true)
	w.Raw("a")
	if w.Len() != 0 || w.String() != "" {
		t.Errorf("%d bytes: %x", w.Len(), w.String())
	}
}

func TestP3_1WriterAnswersAreItsOwn(t *testing.T) {
	var a, b tape.Writer
	a.Raw("abc")
	early := a.String()
	b.Raw("zz")
	a.Int(2, 258)
	if early != "abc" || a.String() != "abc\x02\x01" || b.String() != "zz" || a.String() != "abc\x02\x01" {
		t.Errorf("%x, %x, %x", early, a.String(), b.String())
	}
}

func TestP3_1NilReader(t *testing.T) {
	var r *tape.Reader
	for range 2 {
		for _, c := range takes() {
			if got := c.call(r); got != c.none {
				t.Errorf("%s of %d bytes: %v", c.name, c.size, got)
			}
			if r.Torn() || r.Left() != 0 || r.End() {
				t.Errorf("Torn %v, Left %d, End %v", r.Torn(), r.Left(), r.End())
			}
		}
	}
}

func TestP3_1EmptyText(t *testing.T) {
	r := tape.Read("")
	if r == nil {
		t.Fatal("no reader")
	}
	state(t, r, false, 0)
	for _, c := range takes() {
		if r := tape.Read(""); c.size != 0 {
			if got := c.call(r); got != c.none {
				t.Errorf("%s of %d bytes: %v", c.name, c.size, got)
			}
			nothing(t, r)
		}
	}
}

// TestP3_1TornAtEachPlace takes each thing with any number of bytes left that is too few, behind other bytes and not.
func TestP3_1TornAtEachPlace(t *testing.T) {
	for _, c := range takes() {
		for ahead := range 3 {
			for left := 0; left < 20; left++ {
				r := tape.Read(strings.Repeat("z", ahead) + strings.Repeat("\x01", left))
				r.Raw(ahead)
				got := c.call(r)
				if c.size >= 0 && c.size <= left {
					if got == c.none && c.size > 0 {
						t.Fatalf("%s of %d bytes, %d left: %v", c.name, c.size, left, got)
					}
					state(t, r, false, left-c.size)
					continue
				}
				if got != c.none {
					t.Fatalf("%s of %d bytes, %d left: %v", c.name, c.size, left, got)
				}
				nothing(t, r)
			}
		}
	}
}

func TestP3_1EveryOrder(t *testing.T) {
	random := rand.New(rand.NewSource(31))
	calls := []take{wide(), flag(), flag(), flag(), raw(0), raw(1), raw(2), raw(7)}
	for size := 1; size <= 8; size++ {
		calls = append(calls, number(size, size))
	}
	all := takes()
	for range 3000 {
		b := make([]byte, random.Intn(80))
		for i := range b {
			if b[i] = byte(random.Intn(2)); random.Intn(3) == 0 {
				b[i] = byte(random.Intn(256))
			}
		}
		r, m := tape.Read(string(b)), &model{s: string(b)}
		state(t, r, false, len(b))
		for range 30 {
			c := calls[random.Intn(len(calls))]
			if random.Intn(10) == 0 {
				c = all[random.Intn(len(all))]
			}
			want := m.take(c)
			if got := c.call(r); got != want {
				t.Fatalf("%s of %d bytes in %x: %v, not %v", c.name, c.size, b, got, want)
			}
			state(t, r, m.torn, len(m.s))
		}
	}
}

func TestP3_1TwoReadersOfOneText(t *testing.T) {
	a, b := tape.Read("\x01\x02\x03"), tape.Read("\x01\x02\x03")
	if a.Raw(5) != "" || b.Int(1) != 1 || b.Int(2) != 0x0302 || a.Int(1) != 0 {
		t.Error("they know of one another")
	}
	state(t, a, true, 0)
	state(t, b, false, 0)
}

// thing is something that is put, the call that takes it, and what that answers.
type thing struct {
	put  func(w *tape.Writer)
	take take
	want any
}

// things answers some of all kinds, the same in each run of a seed.
func things(seed int64, many int) []thing {
	random := rand.New(rand.NewSource(seed))
	ints, nums := numbers(), wides()
	var list []thing
	for range many {
		switch random.Intn(4) {
		case 0:
			n, asked := ints[random.Intn(len(ints))], random.Intn(14)-2
			size := sizes[asked]
			list = append(list, thing{func(w *tape.Writer) { w.Int(asked, n) }, number(asked, size), numOf(bytesOf(n, size))})
		case 1:
			n := nums[random.Intn(len(nums))]
			list = append(list, thing{func(w *tape.Writer) { w.Num(n) }, wide(), n})
		case 2:
			yes := random.Intn(2) == 1
			list = append(list, thing{func(w *tape.Writer) { w.Flag(yes) }, flag(), yes})
		default:
			b := make([]byte, max(0, random.Intn(12)-3))
			random.Read(b)
			s := string(b)
			list = append(list, thing{func(w *tape.Writer) { w.Raw(s) }, raw(len(s)), s})
		}
	}
	return list
}

func TestP3_2WhatIsPutIsTaken(t *testing.T) {
	for seed := range int64(200) {
		list := things(seed, int(seed%40))
		var w tape.Writer
		ends := 0
		for _, x := range list {
			x.put(&w)
			if ends += x.take.size; w.Len() != ends {
				t.Fatalf("%s: %d bytes, not %d", x.take.name, w.Len(), ends)
			}
		}
		r := tape.Read(w.String())
		for i, x := range list {
			if got := x.take.call(r); got != x.want {
				t.Fatalf("thing %d, %s of %d bytes: %v, not %v", i, x.take.name, x.take.size, got, x.want)
			}
			ends -= x.take.size
			state(t, r, false, ends)
		}
		if !r.End() {
			t.Fatal("no end")
		}
	}
}

// TestP3_2CutShort takes what was put from each beginning of its bytes: all that is whole is there, then nothing.
func TestP3_2CutShort(t *testing.T) {
	for seed := range int64(20) {
		list := things(seed, 25)
		var w tape.Writer
		for _, x := range list {
			x.put(&w)
		}
		whole := w.String()
		for cut := range len(whole) {
			r := tape.Read(whole[:cut])
			place, torn := 0, false
			for i, x := range list {
				place += x.take.size
				torn = torn || place > cut
				want, left := x.want, cut-place
				if torn {
					want, left = x.take.none, 0
				}
				if got := x.take.call(r); got != want {
					t.Fatalf("cut at %d of %d, thing %d, %s: %v, not %v", cut, len(whole), i, x.take.name, got, want)
				}
				state(t, r, torn, left)
			}
			nothing(t, r)
		}
	}
}

func TestP3_2EachNumberOfEachSize(t *testing.T) {
	for asked, size := range sizes {
		var w tape.Writer
		for _, n := range numbers() {
			w.Int(asked, n)
		}
		r := tape.Read(w.String())
		for _, n := range numbers() {
			got := r.Int(asked)
			if fits := size == 8 || n >= 0 && n < 1<<(8*size); fits && got != n || got != numOf(bytesOf(n, size)) {
				t.Fatalf("%d, put in %d bytes: %d", n, size, got)
			}
		}
		if !r.End() {
			t.Fatalf("of %d bytes each: %d left", size, r.Left())
		}
	}
}

// TestP3_2WhatIsTakenIsPut puts what was taken, of bytes of all kinds, and finds the bytes again.
func TestP3_2WhatIsTakenIsPut(t *testing.T) {
	random := rand.New(rand.NewSource(32))
	for range 500 {
		b := make([]byte, 36+16+5)
		random.Read(b)
		s := string(b) + "\x01\x00"
		r := tape.Read(s)
		var w tape.Writer
		for size := 1; size <= 8; size++ {
			w.Int(size, r.Int(size))
		}
		w.Num(r.Num())
		w.Raw(r.Raw(5))
		w.Flag(r.Flag())
		w.Flag(r.Flag())
		if w.String() != s || !r.End() {
			t.Fatalf("%x, not %x", w.String(), s)
		}
	}
}
