package platter_test

import (
	"math"
	"math/rand"
	"strconv"
	"strings"
	"testing"

	"bondstore/api"
	"bondstore/platter"
)

// full answers the bytes of a sector that was written with a text.
func full(s string) string { return s + strings.Repeat("\x00", 128-len(s)) }

// all answers a sector's worth of one byte.
func all(b byte) string { return strings.Repeat(string([]byte{b}), 128) }

// holds holds what a sector is read as against what it must be.
func holds(t *testing.T, d *platter.Disk, i int, want string) {
	t.Helper()
	s, err := d.Read(i)
	if err != api.OK || s != full(want) {
		t.Fatalf("sector %d: %q, %d; not %q", i, strings.TrimRight(s, "\x00"), err, want)
	}
}

// counts holds what a disk says of its operations against what it must.
func counts(t *testing.T, d *platter.Disk, later, ops int) {
	t.Helper()
	if d.Later() != later || d.Ops() != ops {
		t.Fatalf("Later %d, Ops %d; not %d, %d", d.Later(), d.Ops(), later, ops)
	}
}

// write and sync are such as must answer an error, or none.
func write(t *testing.T, d *platter.Disk, i int, s string, want api.Errno) {
	t.Helper()
	if err := d.Write(i, s); err != want {
		t.Fatalf("Write(%d) of %d bytes: %d, not %d", i, len(s), err, want)
	}
}

func sync(t *testing.T, d *platter.Disk, want api.Errno) {
	t.Helper()
	if err := d.Sync(); err != want {
		t.Fatalf("Sync: %d, not %d", err, want)
	}
}

func TestP4_1New(t *testing.T) {
	for asked, want := range map[int]int{
		0: 0, 1: 1, 2: 2, 12: 12, 127: 127, 600: 600, 4095: 4095, 4096: 4096,
		-1: 0, -2: 0, -4096: 0, math.MinInt: 0, math.MinInt + 1: 0,
		4097: 4096, 4098: 4096, 1 << 13: 4096, 1 << 31: 4096, 1<<32 + 1: 4096, math.MaxInt: 4096,
	} {
		d := platter.New(asked)
		if d.Sectors() != want {
			t.Errorf("New(%d): %d sectors", asked, d.Sectors())
		}
		counts(t, d, 0, 0)
		for i := range want {
			holds(t, d, i, "")
		}
	}
}

func TestP4_1Outside(t *testing.T) {
	for _, n := range []int{0, 1, 2, 7, 4095, 4096} {
		d := platter.New(n)
		for _, i := range []int{-1, -2, -1 - n, -128, math.MinInt, math.MinInt + 1, n, n + 1, n + 128, 1 << 13, 1 << 32, math.MaxInt - 1, math.MaxInt} {
			if s, err := d.Read(i); s != "" || err != api.ErrArg {
				t.Fatalf("of %d sectors, Read(%d): %q, %d", n, i, s, err)
			}
			for _, s := range []string{"", "x", all('x'), all('x') + "x"} {
				write(t, d, i, s, api.ErrArg)
			}
		}
		counts(t, d, 0, 0)
	}
}

func TestP4_1BothEnds(t *testing.T) {
	for _, n := range []int{1, 2, 7, 4095, 4096} {
		d := platter.New(n)
		write(t, d, 0, "first", api.OK)
		holds(t, d, 0, "first")
		write(t, d, n-1, "last", api.OK)
		holds(t, d, n-1, "last")
		if n > 1 {
			holds(t, d, 0, "first")
		}
		for i := 1; i < n-1; i++ {
			holds(t, d, i, "")
		}
		counts(t, d, 2, 2)
	}
}

func TestP4_1NoSectors(t *testing.T) {
	d := platter.New(0)
	sync(t, d, api.OK)
	d.Crash(math.MaxUint64, 0, 128)
	d.Arm(1)
	write(t, d, 0, "x", api.ErrArg)
	sync(t, d, api.ErrDisk)
	sync(t, d, api.OK)
	counts(t, d, 0, 3)
}

func TestP4_1EachSectorIsItsOwn(t *testing.T) {
	const n = 4096
	d := platter.New(n)
	for i := range n {
		write(t, d, i, "of "+strconv.Itoa(i), api.OK)
	}
	for pass := range 3 {
		for i := range n {
			holds(t, d, i, "of "+strconv.Itoa(i))
		}
		if pass == 0 {
			counts(t, d, n, n)
			sync(t, d, api.OK)
			counts(t, d, 0, n+1)
		} else {
			d.Crash(0, 0, 0)
			counts(t, d, 0, n+1)
		}
	}
}

func TestP4_1Texts(t *testing.T) {
	d := platter.New(2)
	ops := 0
	for _, s := range []string{all('a'), "", "b", all('c')[:127], "\x00", "\x00\x00z", all(0), all(255), all(255)[:64], "\xff\xfe\x00\u20ac", full("d"), all('e')} {
		write(t, d, 1, s, api.OK)
		ops++
		holds(t, d, 1, s)
		holds(t, d, 0, "")
		counts(t, d, ops, ops)
	}
	for _, s := range []string{all('f') + "f", all('f') + "\x00", all(0) + "\x00", strings.Repeat("f", 256), strings.Repeat("f", 1<<16)} {
		write(t, d, 1, s, api.ErrArg)
		holds(t, d, 1, all('e'))
		counts(t, d, ops, ops)
	}
	d.Crash(math.MaxUint64, -1, 0)
	holds(t, d, 1, all('e'))
	write(t, d, 1, "", api.OK)
	holds(t, d, 1, "")
	sync(t, d, api.OK)
	d.Crash(0, -1, 0)
	holds(t, d, 1, "")
}

// TestP4_1EachLength writes texts of all lengths over a sector that is full: noughts stand behind them, now and behind a crash.
func TestP4_1EachLength(t *testing.T) {
	for n := range 129 {
		d := platter.New(1)
		write(t, d, 0, all('o'), api.OK)
		sync(t, d, api.OK)
		write(t, d, 0, all('n')[:n], api.OK)
		holds(t, d, 0, all('n')[:n])
		if n%2 == 0 {
			sync(t, d, api.OK)
		}
		d.Crash(1, -1, 0)
		holds(t, d, 0, all('n')[:n])
	}
}

func TestP4_1ReadsAndSyncs(t *testing.T) {
	d := platter.New(3)
	write(t, d, 1, "early", api.OK)
	holds(t, d, 1, "early")
	sync(t, d, api.OK)
	holds(t, d, 1, "early")
	write(t, d, 1, "late", api.OK)
	write(t, d, 2, "later", api.OK)
	holds(t, d, 1, "late")
	holds(t, d, 2, "later")
	counts(t, d, 2, 4)
	d.Crash(0, -1, 0)
	holds(t, d, 0, "")
	holds(t, d, 1, "early")
	holds(t, d, 2, "")
	counts(t, d, 0, 4)
	write(t, d, 1, "late", api.OK)
	sync(t, d, api.OK)
	sync(t, d, api.OK)
	counts(t, d, 0, 7)
	d.Crash(0, -1, 0)
	holds(t, d, 1, "late")
}

// TestP4_1Example is the chapter's.
func TestP4_1Example(t *testing.T) {
	d := platter.New(1)
	write(t, d, 0, "a", api.OK)
	d.Crash(0, -1, 0)
	holds(t, d, 0, "")
}

// TestP4_1EachBit makes 100 writes, each of a sector of its own, and crashes with each bit alone, and with each but that one.
func TestP4_1EachBit(t *testing.T) {
	const many = 100
	for bit := range 64 {
		for _, mask := range []uint64{1 << bit, ^(1 << bit)} {
			d := platter.New(many)
			for i := range many {
				write(t, d, i, strconv.Itoa(i), api.OK)
			}
			counts(t, d, many, many)
			d.Crash(mask, -1, 0)
			counts(t, d, 0, many)
			for i := range many {
				// The highest bit is the 64th's and that of all behind it.
				own := i == bit || i > bit && bit == 63
				want := ""
				if own == (mask == 1<<bit) {
					want = strconv.Itoa(i)
				}
				holds(t, d, i, want)
			}
		}
	}
}

func TestP4_1AllBitsAndNone(t *testing.T) {
	for _, many := range []int{1, 2, 63, 64, 65, 130, 1000} {
		for _, mask := range []uint64{0, math.MaxUint64, 1 << 63, 1<<63 - 1} {
			d := platter.New(many)
			for i := range many {
				write(t, d, i, strconv.Itoa(i), api.OK)
			}
			d.Crash(mask, -1, 0)
			for i := range many {
				want := ""
				if mask == math.MaxUint64 || mask == 1<<63 && i >= 63 || mask == 1<<63-1 && i < 63 {
					want = strconv.Itoa(i)
				}
				holds(t, d, i, want)
			}
		}
	}
}

// TestP4_1OneSectorManyTimes: of the writes that last, the one that came last is there.
func TestP4_1OneSectorManyTimes(t *testing.T) {
	for _, c := range []struct {
		many int
		mask uint64
		want string
	}{
		{1, 0, "old"}, {1, 1, "0"}, {1, 2, "old"}, {1, math.MaxUint64, "0"},
		{2, 0, "old"}, {2, 1, "0"}, {2, 2, "1"}, {2, 3, "1"}, {2, 4, "old"},
		{5, 1<<1 | 1<<3, "3"}, {5, 1<<0 | 1<<1, "1"}, {5, 1 << 4, "4"}, {5, 1 << 5, "old"}, {5, math.MaxUint64, "4"},
		{63, 1 << 63, "old"}, {63, 1<<63 - 1, "62"}, {63, 1 << 62, "62"},
		{64, 1 << 63, "63"}, {64, 1<<63 - 1, "62"}, {64, 1<<63 | 1, "63"},
		{65, 1 << 63, "64"}, {65, 1<<63 - 1, "62"}, {65, 1 << 0, "0"}, {65, 1 << 1, "1"}, {65, 0, "old"},
		{128, 1 << 63, "127"}, {128, 1 << 0, "0"}, {129, 1<<63 - 1, "62"}, {300, 1 << 63, "299"}, {300, 1 << 44, "44"},
	} {
		d := platter.New(2)
		write(t, d, 1, "old", api.OK)
		sync(t, d, api.OK)
		for i := range c.many {
			write(t, d, 1, strconv.Itoa(i), api.OK)
		}
		holds(t, d, 1, strconv.Itoa(c.many-1))
		counts(t, d, c.many, c.many+2)
		d.Crash(c.mask, -1, 0)
		holds(t, d, 1, c.want)
		holds(t, d, 0, "")
		counts(t, d, 0, c.many+2)
	}
}

// TestP4_1Torn tears the middle one of three writes, at each place and beyond, whether its bit is set or not.
func TestP4_1Torn(t *testing.T) {
	cuts := []int{math.MinInt, math.MinInt + 1, -129, -128, -2, -1, 129, 130, 256, 1 << 32, math.MaxInt - 1, math.MaxInt}
	for cut := range 129 {
		cuts = append(cuts, cut)
	}
	for _, cut := range cuts {
		for _, mask := range []uint64{0, 1 << 1, 1 << 0, 1<<0 | 1<<1 | 1<<2, 1 << 2, math.MaxUint64, ^uint64(1 << 1)} {
			d := platter.New(3)
			for i := range 3 {
				write(t, d, i, all('o'), api.OK)
			}
			sync(t, d, api.OK)
			write(t, d, 0, "first", api.OK)
			write(t, d, 1, all('n')[:100], api.OK)
			write(t, d, 2, "third", api.OK)
			d.Crash(mask, 1, cut)
			n := min(max(cut, 0), 128)
			holds(t, d, 1, full(all('n')[:100])[:n]+all('o')[n:])
			for i, s := range map[int]string{0: "first", 2: "third"} {
				if mask>>i&1 == 0 {
					s = all('o')
				}
				holds(t, d, i, s)
			}
			counts(t, d, 0, 7)
		}
	}
}

func TestP4_1TornOverBlank(t *testing.T) {
	d := platter.New(1)
	write(t, d, 0, "hello", api.OK)
	d.Crash(0, 0, 3)
	holds(t, d, 0, "hel")
	write(t, d, 0, "xy", api.OK)
	d.Crash(0, 0, 3)
	holds(t, d, 0, "xy")
	write(t, d, 0, "", api.OK)
	d.Crash(0, 0, 1)
	holds(t, d, 0, "\x00y")
}

// TestP4_1TornAmongOthersOfOneSector: a torn one lies over those ahead of it that last, and below those behind it.
func TestP4_1TornAmongOthersOfOneSector(t *testing.T) {
	for mask := range uint64(1 << 4) {
		for torn := range 4 {
			for _, cut := range []int{0, 1, 60, 127, 128} {
				d := platter.New(1)
				write(t, d, 0, all('o'), api.OK)
				sync(t, d, api.OK)
				want := all('o')
				for i, s := range []string{all('a'), all('b')[:90], "c", all('d')[:30]} {
					write(t, d, 0, s, api.OK)
					switch {
					case i == torn:
						want = full(s)[:cut] + want[cut:]
					case mask>>i&1 == 1:
						want = full(s)
					}
				}
				d.Crash(mask, torn, cut)
				holds(t, d, 0, want)
			}
		}
	}
}

// TestP4_1TornFarBehind tears each of 100 writes, with and without the others.
func TestP4_1TornFarBehind(t *testing.T) {
	const many = 100
	for torn := range many {
		for _, mask := range []uint64{0, math.MaxUint64, 1 << 63, 1<<63 - 1} {
			d := platter.New(many)
			for i := range many {
				write(t, d, i, "w"+strconv.Itoa(i), api.OK)
			}
			d.Crash(mask, torn, 2)
			for i := range many {
				want := ""
				if i == torn {
					want = ("w" + strconv.Itoa(i))[:2]
				} else if mask>>min(i, 63)&1 == 1 {
					want = "w" + strconv.Itoa(i)
				}
				holds(t, d, i, want)
			}
		}
	}
}

func TestP4_1TornIsNoWrite(t *testing.T) {
	for _, torn := range []int{-1, -2, -63, -64, -65, math.MinInt, 3, 4, 63, 64, 65, 1 << 32, math.MaxInt} {
		for _, cut := range []int{-1, 0, 5, 128, 129} {
			d := platter.New(3)
			for i := range 3 {
				write(t, d, i, all(byte('a'+i)), api.OK)
			}
			d.Crash(1<<1, torn, cut)
			holds(t, d, 0, "")
			holds(t, d, 1, all('b'))
			holds(t, d, 2, "")
			counts(t, d, 0, 3)
		}
	}
}

// TestP4_1WritesAreNumberedAnew: behind a sync and behind a crash the first write has the number 0, and what failed, or can't be, has none.
func TestP4_1WritesAreNumberedAnew(t *testing.T) {
	d := platter.New(4)
	write(t, d, 0, "a", api.OK)
	sync(t, d, api.OK)
	write(t, d, 9, "no", api.ErrArg)
	d.Arm(1)
	write(t, d, 3, "fails", api.ErrDisk)
	write(t, d, 1, "b", api.OK)
	write(t, d, 2, "c", api.OK)
	d.Crash(1<<0, -1, 0)
	holds(t, d, 0, "a")
	holds(t, d, 1, "b")
	holds(t, d, 2, "")
	holds(t, d, 3, "")
	write(t, d, 2, "c", api.OK)
	write(t, d, 3, "d", api.OK)
	d.Crash(1<<1, 0, 128)
	holds(t, d, 2, "c")
	holds(t, d, 3, "d")
}

func TestP4_1CrashTwice(t *testing.T) {
	d := platter.New(2)
	write(t, d, 0, "a", api.OK)
	write(t, d, 1, "b", api.OK)
	d.Crash(1, -1, 0)
	d.Crash(math.MaxUint64, 1, 128)
	holds(t, d, 0, "a")
	holds(t, d, 1, "")
	sync(t, d, api.OK)
	d.Crash(math.MaxUint64, 0, 128)
	holds(t, d, 0, "a")
	holds(t, d, 1, "")
	counts(t, d, 0, 3)
}

// TestP4_1ArmedWrite: it does nothing, and is no write for what comes behind; it was tried.
func TestP4_1ArmedWrite(t *testing.T) {
	for n := 1; n <= 5; n++ {
		d := platter.New(6)
		write(t, d, 0, "old", api.OK)
		d.Arm(n)
		later := 1
		for i := 1; i <= 5; i++ {
			if i == n {
				write(t, d, 0, "new", api.ErrDisk)
				holds(t, d, 0, "old")
			} else {
				write(t, d, i, "x", api.OK)
				holds(t, d, i, "x")
				later++
			}
			counts(t, d, later, i+1)
		}
		sync(t, d, api.OK)
		counts(t, d, 0, 7)
		d.Crash(math.MaxUint64, 0, 128)
		holds(t, d, 0, "old")
		holds(t, d, n, "")
	}
}

// TestP4_1ArmedSync: what was written is read on, but doesn't last.
func TestP4_1ArmedSync(t *testing.T) {
	for _, mask := range []uint64{0, 1, 2, 3} {
		d := platter.New(2)
		d.Arm(3)
		write(t, d, 0, "a", api.OK)
		write(t, d, 1, "b", api.OK)
		sync(t, d, api.ErrDisk)
		counts(t, d, 2, 3)
		holds(t, d, 0, "a")
		holds(t, d, 1, "b")
		d.Crash(mask, -1, 0)
		holds(t, d, 0, map[bool]string{true: "a"}[mask&1 != 0])
		holds(t, d, 1, map[bool]string{true: "b"}[mask&2 != 0])
	}
	d := platter.New(1)
	write(t, d, 0, "a", api.OK)
	d.Arm(1)
	sync(t, d, api.ErrDisk)
	sync(t, d, api.OK)
	counts(t, d, 0, 3)
	d.Crash(0, 0, 0)
	holds(t, d, 0, "a")
}

// TestP4_1WhatIsTried: a write that can't be, a read and a question are no operations; each error has its turn.
func TestP4_1WhatIsTried(t *testing.T) {
	d := platter.New(2)
	d.Arm(2)
	for range 3 {
		write(t, d, 2, "x", api.ErrArg)
		write(t, d, -1, "x", api.ErrArg)
		write(t, d, 0, all('x')+"x", api.ErrArg)
		d.Read(0)
		d.Read(7)
		if d.Sectors() != 2 {
			t.Fatal("Sectors")
		}
		counts(t, d, 0, 0)
	}
	write(t, d, 0, "a", api.OK)
	write(t, d, 2, "x", api.ErrArg)
	d.Read(0)
	counts(t, d, 1, 1)
	sync(t, d, api.ErrDisk)
	counts(t, d, 1, 2)
	d.Arm(1)
	write(t, d, 2, "x", api.ErrArg)
	write(t, d, 1, all('x')+"x", api.ErrArg)
	write(t, d, 1, all('x'), api.ErrDisk)
	holds(t, d, 1, "")
	counts(t, d, 1, 3)
	d.Crash(0, -1, 0)
	counts(t, d, 0, 3)
}

// TestP4_1OneFails: the n-th alone, and of the numbers that were armed the latest one.
func TestP4_1OneFails(t *testing.T) {
	for n := 1; n <= 70; n++ {
		d := platter.New(1)
		sync(t, d, api.OK)
		d.Arm(3)
		d.Arm(n)
		for i := 1; i <= 80; i++ {
			want := api.OK
			if i == n {
				want = api.ErrDisk
			}
			if i%2 == 0 {
				sync(t, d, want)
			} else {
				write(t, d, 0, "x", want)
			}
		}
		if d.Ops() != 81 {
			t.Fatalf("Ops %d", d.Ops())
		}
	}
}

func TestP4_1ArmedAnew(t *testing.T) {
	d := platter.New(1)
	d.Arm(2)
	sync(t, d, api.OK)
	d.Arm(2) // counts from now on
	sync(t, d, api.OK)
	sync(t, d, api.ErrDisk)
	sync(t, d, api.OK)
	for range 3 {
		d.Arm(1)
		sync(t, d, api.ErrDisk)
	}
	sync(t, d, api.OK)
}

func TestP4_1ArmedBelowOne(t *testing.T) {
	for _, n := range []int{0, -1, -2, -3, math.MinInt, math.MinInt + 1} {
		for _, ahead := range []int{0, 1, 2, 3, math.MaxInt} {
			d := platter.New(1)
			d.Arm(ahead)
			d.Arm(n)
			for i := range 10 {
				write(t, d, 0, strconv.Itoa(i), api.OK)
				sync(t, d, api.OK)
			}
			counts(t, d, 0, 20)
			holds(t, d, 0, "9")
		}
	}
}

func TestP4_1ArmedFarOff(t *testing.T) {
	for _, n := range []int{1 << 31, 1 << 32, 1<<32 + 1, math.MaxInt - 1, math.MaxInt} {
		d := platter.New(1)
		for range 3 {
			sync(t, d, api.OK)
		}
		d.Arm(n)
		for range 100 {
			write(t, d, 0, "x", api.OK)
		}
		counts(t, d, 100, 103)
	}
}

func TestP4_1CrashDisarms(t *testing.T) {
	for n := 1; n <= 4; n++ {
		for ahead := range n {
			d := platter.New(1)
			d.Arm(n)
			for range ahead {
				write(t, d, 0, "x", api.OK)
			}
			d.Crash(math.MaxUint64, 0, 128)
			for range 10 {
				write(t, d, 0, "y", api.OK)
				sync(t, d, api.OK)
			}
			counts(t, d, 0, ahead+20)
			d.Arm(1)
			sync(t, d, api.ErrDisk)
		}
	}
}

func TestP4_1NilDisk(t *testing.T) {
	var d *platter.Disk
	for range 2 {
		for _, i := range []int{0, 1, -1, 4096, math.MinInt, math.MaxInt} {
			if s, err := d.Read(i); s != "" || err != api.ErrNil {
				t.Errorf("Read(%d): %q, %d", i, s, err)
			}
			for _, s := range []string{"", "x", all('x'), all('x') + "x"} {
				write(t, d, i, s, api.ErrNil)
			}
		}
		sync(t, d, api.ErrNil)
		d.Crash(math.MaxUint64, 0, 128)
		d.Arm(1)
		counts(t, d, 0, 0)
		if d.Sectors() != 0 {
			t.Errorf("%d sectors", d.Sectors())
		}
	}
}

func TestP4_1DisksKnowNothingOfOneAnother(t *testing.T) {
	a, b := platter.New(2), platter.New(2)
	write(t, a, 0, "a", api.OK)
	a.Arm(1)
	sync(t, b, api.OK)
	write(t, b, 1, "b", api.OK)
	holds(t, a, 1, "")
	holds(t, b, 0, "")
	b.Crash(0, -1, 0)
	sync(t, a, api.ErrDisk)
	holds(t, a, 0, "a")
	counts(t, a, 1, 2)
	counts(t, b, 0, 2)
}

// TestP4_1AnswersStay: what was read isn't changed by what is done behind it.
func TestP4_1AnswersStay(t *testing.T) {
	d := platter.New(1)
	write(t, d, 0, "early", api.OK)
	early, _ := d.Read(0)
	write(t, d, 0, all('x'), api.OK)
	sync(t, d, api.OK)
	d.Crash(0, -1, 0)
	if early != full("early") {
		t.Errorf("%q", early)
	}
}

// written is a write of the model that isn't synced.
type written struct {
	at    int
	bytes string
}

// model is a disk as the document tells it: what lasts, and what was written behind that.
type model struct {
	lasts []string
	later []written
	ops   int
	fails int // the operation's number of all that were ever tried; 0: none
}

func newModel(n int) *model {
	m := &model{lasts: make([]string, n)}
	for i := range m.lasts {
		m.lasts[i] = full("")
	}
	return m
}

// read looks for the latest write.
func (m *model) read(i int) (string, api.Errno) {
	if i < 0 || i >= len(m.lasts) {
		return "", api.ErrArg
	}
	for n := len(m.later) - 1; n >= 0; n-- {
		if m.later[n].at == i {
			return m.later[n].bytes, api.OK
		}
	}
	return m.lasts[i], api.OK
}

func (m *model) operation() api.Errno {
	m.ops++
	if m.ops == m.fails {
		return api.ErrDisk
	}
	return api.OK
}

func (m *model) write(i int, s string) api.Errno {
	if i < 0 || i >= len(m.lasts) || len(s) > 128 {
		return api.ErrArg
	}
	err := m.operation()
	if err == api.OK {
		m.later = append(m.later, written{i, full(s)})
	}
	return err
}

func (m *model) sync() api.Errno {
	err := m.operation()
	if err == api.OK {
		for i := range m.lasts {
			m.lasts[i], _ = m.read(i)
		}
		m.later = nil
	}
	return err
}

func (m *model) arm(n int) {
	m.fails = 0
	if n > 0 {
		m.fails = m.ops + n
	}
}

// persists answers how many bytes of a write last at a crash.
func persists(number int, mask uint64, torn, cut int) int {
	if number == torn {
		return min(max(cut, 0), 128)
	}
	bit := number
	if bit > 63 {
		bit = 63
	}
	if mask&(1<<bit) != 0 {
		return 128
	}
	return 0
}

// crash looks, of each byte of each sector, for the latest write that reaches it and lasts so far.
func (m *model) crash(mask uint64, torn, cut int) {
	for i := range m.lasts {
		b := []byte(m.lasts[i])
		for p := range b {
			for n := len(m.later) - 1; n >= 0; n-- {
				if m.later[n].at == i && persists(n, mask, torn, cut) > p {
					b[p] = m.later[n].bytes[p]
					break
				}
			}
		}
		m.lasts[i] = string(b)
	}
	m.later, m.fails = nil, 0
}

// same holds a disk against the model.
func same(t *testing.T, d *platter.Disk, m *model) {
	t.Helper()
	for i := -1; i <= len(m.lasts); i++ {
		s, err := d.Read(i)
		if want, wantErr := m.read(i); s != want || err != wantErr {
			t.Fatalf("sector %d: %q, %d; not %q, %d", i, s, err, want, wantErr)
		}
	}
	counts(t, d, len(m.later), m.ops)
	if d.Sectors() != len(m.lasts) {
		t.Fatalf("%d sectors, not %d", d.Sectors(), len(m.lasts))
	}
}

// chance answers a mask, a torn number and a cut, that of more writes than bits, too.
func chance(random *rand.Rand, later int) (mask uint64, torn, cut int) {
	mask = random.Uint64()
	switch random.Intn(6) {
	case 0:
		mask = 0
	case 1:
		mask = math.MaxUint64
	case 2:
		mask &= random.Uint64() & random.Uint64()
	}
	return mask, random.Intn(later+4) - 2, random.Intn(140) - 6
}

// text answers one of up to 128 bytes, seldom of more.
func text(random *rand.Rand) string {
	n := []int{0, 1, random.Intn(128), random.Intn(128), 127, 128, 128}[random.Intn(7)]
	if random.Intn(12) == 0 {
		n = 129 + random.Intn(3)
	}
	b := make([]byte, n)
	random.Read(b)
	return string(b)
}

// TestP4_1EveryOrder does what comes, of a few sectors and many writes, and holds all answers against the model's.
func TestP4_1EveryOrder(t *testing.T) {
	for seed := range int64(120) {
		random := rand.New(rand.NewSource(seed))
		n := []int{0, 1, 2, 3, 7}[seed%5]
		d, m := platter.New(n), newModel(n)
		// Some disks crash and sync so seldom that more writes wait than the mask has bits.
		rare := []int{4, 20, 120}[seed%3]
		for range 500 {
			switch random.Intn(rare + 4) {
			case 0:
				if got, want := d.Sync(), m.sync(); got != want {
					t.Fatalf("Sync: %d, not %d", got, want)
				}
			case 1:
				mask, torn, cut := chance(random, len(m.later))
				d.Crash(mask, torn, cut)
				m.crash(mask, torn, cut)
			case 2:
				n := random.Intn(12) - 2
				d.Arm(n)
				m.arm(n)
			default:
				i, s := random.Intn(n+2)-1, text(random)
				if got, want := d.Write(i, s), m.write(i, s); got != want {
					t.Fatalf("Write(%d) of %d bytes: %d, not %d", i, len(s), got, want)
				}
			}
			same(t, d, m)
		}
	}
}

// TestP4_2SyncedIsThere writes all sectors, syncs, writes some of them again, and crashes: the others are as they were.
func TestP4_2SyncedIsThere(t *testing.T) {
	const n = 40
	for seed := range int64(300) {
		random := rand.New(rand.NewSource(seed))
		d := platter.New(n)
		for range 3 {
			synced := make([]string, n)
			for i := range n {
				synced[i] = all(byte(random.Intn(256)))
				write(t, d, i, all('-'), api.OK)
				write(t, d, i, synced[i], api.OK)
			}
			sync(t, d, api.OK)
			again := random.Intn(n + 1)
			many := random.Intn(150)
			for range many {
				if again > 0 {
					write(t, d, random.Intn(again), "again", api.OK)
				}
			}
			// One that is refused, or can't be, wasn't written.
			d.Arm(1)
			write(t, d, n-1, "refused", api.ErrDisk)
			write(t, d, n-1, all('x')+"x", api.ErrArg)
			d.Arm(1)
			sync(t, d, api.ErrDisk)
			for range 2 {
				mask, torn, cut := chance(random, many)
				d.Crash(mask, torn, cut)
				for i := again; i < n; i++ {
					holds(t, d, i, synced[i])
				}
			}
		}
	}
}

// TestP4_2EachMask asks the same of one sector, with each write behind the sync in another one, whatever the crash.
func TestP4_2EachMask(t *testing.T) {
	for many := range 7 {
		for mask := range uint64(1 << many) {
			for torn := -1; torn <= many; torn++ {
				d := platter.New(8)
				write(t, d, 7, "not this", api.OK)
				write(t, d, 7, "kept", api.OK)
				sync(t, d, api.OK)
				for i := range many {
					write(t, d, i, all('x'), api.OK)
				}
				d.Crash(mask, torn, 64)
				holds(t, d, 7, "kept")
				d.Crash(math.MaxUint64, 0, 128)
				holds(t, d, 7, "kept")
			}
		}
	}
}

// TestP4_2AgainAndAgain syncs one sector more each time, and crashes behind each: all of them are there.
func TestP4_2AgainAndAgain(t *testing.T) {
	const n = 100
	d := platter.New(n)
	for i := range n {
		write(t, d, i, strconv.Itoa(i), api.OK)
		sync(t, d, api.OK)
		if i+1 < n {
			write(t, d, i+1, "lost", api.OK)
		}
		d.Crash(0, 0, 0)
		for k := range n {
			want := ""
			if k <= i {
				want = strconv.Itoa(k)
			}
			holds(t, d, k, want)
		}
	}
	counts(t, d, 0, 3*n-1)
}
