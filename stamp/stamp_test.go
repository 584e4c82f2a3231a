package stamp_test

import (
	"encoding/binary"
	"hash/crc32"
	"math"
	"math/rand"
	"strings"
	"testing"

	"bondstore/api"
	"bondstore/platter"
	"bondstore/stamp"
)

// sectorOf answers the bytes of a sector as the chapter lays them, with what it is told, right or not.
func sectorOf(first, index, length int, room string, last int) string {
	b := binary.LittleEndian.AppendUint64(nil, uint64(first))
	b = binary.LittleEndian.AppendUint16(b, uint16(index))
	b = binary.LittleEndian.AppendUint16(b, uint16(length))
	b = append(b, room...)
	b = binary.LittleEndian.AppendUint32(b, crc32.Checksum(b, crc32.MakeTable(crc32.Castagnoli)))
	return string(binary.LittleEndian.AppendUint64(b, uint64(last)))
}

// roomOf answers Data, and noughts behind it.
func roomOf(data string) string { return data + strings.Repeat("\x00", max(0, 104-len(data))) }

// wholeOf answers a leaf's sector by the chapter's words.
func wholeOf(l stamp.Leaf) string {
	return sectorOf(l.Number, l.Index, len(l.Data), roomOf(l.Data), l.Number)
}

// text answers so many bytes, no two of them in a row alike, and none of them 0.
func text(n int) string {
	b := make([]byte, n)
	for i := range b {
		b[i] = byte(1 + (i*7+i/104)%255)
	}
	return string(b)
}

// leaves are such that can be, at the ends of what can, and between.
func leaves() []stamp.Leaf {
	var list []stamp.Leaf
	for _, number := range []int{1, 2, 255, 256, 0x0102030405060708, 1 << 32, 1<<60 - 1, 1 << 60} {
		for _, index := range []int{0, 1, 255, 256, 0x0102, 4094, 4095} {
			for _, data := range []string{"", "x", "hi", "\x00", text(103), text(104), roomOf(""), strings.Repeat("\xff", 104), text(50) + "\x00\x00"} {
				list = append(list, stamp.Leaf{Number: number, Index: index, Data: data})
			}
		}
	}
	return list
}

// isRead holds a sector's bytes to being read as a leaf, and notRead to being none.
func isRead(t *testing.T, s string, want stamp.Leaf) {
	t.Helper()
	if l, ok := stamp.Read(s); !ok || l != want {
		t.Fatalf("Read of %+v: %+v, %v", want, l, ok)
	}
}

func notRead(t *testing.T, s, why string) {
	t.Helper()
	if l, ok := stamp.Read(s); ok || l != (stamp.Leaf{}) {
		t.Fatalf("Read, %s: %+v, %v", why, l, ok)
	}
}

// taken holds what is taken to a text, and notTaken to nothing.
func taken(t *testing.T, d *platter.Disk, from, to, number int, want string) {
	t.Helper()
	if s, ok := stamp.Take(d, from, to, number, len(want)); !ok || s != want {
		t.Fatalf("Take(%d, %d, %d, %d): %q, %v", from, to, number, len(want), s, ok)
	}
}

func notTaken(t *testing.T, d *platter.Disk, from, to, number, size int) {
	t.Helper()
	if s, ok := stamp.Take(d, from, to, number, size); ok || s != "" {
		t.Fatalf("Take(%d, %d, %d, %d): %q, %v", from, to, number, size, s, ok)
	}
}

// laid holds what Lay answers to an error, or none.
func laid(t *testing.T, d *platter.Disk, from, to, number int, s string, want api.Errno) {
	t.Helper()
	if err := stamp.Lay(d, from, to, number, s); err != want {
		t.Fatalf("Lay(%d, %d, %d) of %d bytes: %d, not %d", from, to, number, len(s), err, want)
	}
}

// put writes a sector as it is, and lasts makes all writes last.
func put(t *testing.T, d *platter.Disk, i int, s string) {
	t.Helper()
	if err := d.Write(i, s); err != api.OK {
		t.Fatalf("Write(%d): %d", i, err)
	}
}

func lasts(t *testing.T, d *platter.Disk) {
	t.Helper()
	if err := d.Sync(); err != api.OK {
		t.Fatalf("Sync: %d", err)
	}
}

// all answers what stands in all sectors of a disk.
func all(t *testing.T, d *platter.Disk) []string {
	t.Helper()
	var list []string
	for i := range d.Sectors() {
		s, err := d.Read(i)
		if err != api.OK {
			t.Fatalf("Read(%d): %d", i, err)
		}
		list = append(list, s)
	}
	return list
}

// stands holds a disk's sectors to those that must stand there.
func stands(t *testing.T, d *platter.Disk, want []string) {
	t.Helper()
	for i, s := range all(t, d) {
		if s != want[i] {
			t.Fatalf("sector %d: %q, not %q", i, s, want[i])
		}
	}
}

// partsOf answers the sectors of bytes that are laid, by the chapter's words.
func partsOf(number int, s string) []string {
	var list []string
	for {
		n := min(104, len(s))
		list = append(list, wholeOf(stamp.Leaf{Number: number, Index: len(list), Data: s[:n]}))
		s = s[n:]
		if s == "" {
			return list
		}
	}
}

func TestP5_1Most(t *testing.T) {
	if stamp.Most != 1152921504606846976 {
		t.Errorf("Most is %d", stamp.Most)
	}
}

func TestP5_1Bytes(t *testing.T) {
	for _, l := range leaves() {
		s, err := stamp.Bytes(l)
		if err != api.OK || len(s) != 128 {
			t.Fatalf("Bytes of %+v: %d bytes, %d", l, len(s), err)
		}
		want := wholeOf(l)
		for i := range want {
			if s[i] != want[i] {
				t.Fatalf("Bytes of %+v: byte %d is %d, not %d", l, i, s[i], want[i])
			}
		}
	}
}

// TestP5_1BytesByHand holds a sector to bytes that are written out.
func TestP5_1BytesByHand(t *testing.T) {
	number := "\x08\x07\x06\x05\x04\x03\x02\x01"
	ahead := number + "\x0c\x0b" + "\x05\x00" + "hello" + strings.Repeat("\x00", 99)
	sum := crc32.Checksum([]byte(ahead), crc32.MakeTable(crc32.Castagnoli))
	want := ahead + string([]byte{byte(sum), byte(sum >> 8), byte(sum >> 16), byte(sum >> 24)}) + number
	s, err := stamp.Bytes(stamp.Leaf{Number: 0x0102030405060708, Index: 0x0b0c, Data: "hello"})
	if err != api.OK || s != want {
		t.Errorf("%x, %d", s, err)
	}
}

// TestP5_1Example is the chapter's.
func TestP5_1Example(t *testing.T) {
	s, err := stamp.Bytes(stamp.Leaf{Number: 1, Data: "hi"})
	if err != api.OK || len(s) != 128 || s[0] != 1 || s[120] != 1 {
		t.Errorf("%x, %d", s, err)
	}
}

func TestP5_1NoLeaf(t *testing.T) {
	for _, l := range []stamp.Leaf{
		{}, {Data: "x"}, {Number: -1}, {Number: math.MinInt}, {Number: 1<<60 + 1}, {Number: 1 << 61}, {Number: 1 << 62}, {Number: math.MaxInt},
		{Number: 1, Index: -1}, {Number: 1, Index: 4096}, {Number: 1, Index: 1 << 16}, {Number: 1, Index: 1 << 32}, {Number: 1, Index: math.MinInt}, {Number: 1, Index: math.MaxInt},
		{Number: 1, Data: text(105)}, {Number: 1, Data: text(128)}, {Number: 1, Data: text(1 << 16)}, {Number: 1, Data: text(1<<16 + 1)},
		{Number: 1 << 60, Index: 4095, Data: text(105)}, {Number: 1 << 60, Index: 4096, Data: text(104)}, {Number: 1<<60 + 1, Index: 4095, Data: text(104)},
		{Number: 0, Index: 4096, Data: text(105)},
	} {
		if s, err := stamp.Bytes(l); s != "" || err != api.ErrArg {
			t.Errorf("Bytes of %d, %d, %d bytes: %x, %d", l.Number, l.Index, len(l.Data), s, err)
		}
	}
}

func TestP5_1Read(t *testing.T) {
	for _, l := range leaves() {
		isRead(t, wholeOf(l), l)
	}
}

func TestP5_1ReadOfOtherLengths(t *testing.T) {
	for _, l := range leaves() {
		s := wholeOf(l)
		for n := range 128 {
			notRead(t, s[:n], "fewer bytes")
			notRead(t, s[128-n:], "the last ones")
		}
		for _, more := range []string{"\x00", "\x01", "x", s[:8], s} {
			notRead(t, s+more, "more bytes")
			notRead(t, more+s, "more bytes ahead")
		}
	}
	for _, n := range []int{0, 1, 8, 12, 116, 120, 127, 128, 129, 256} {
		notRead(t, strings.Repeat("\x00", n), "noughts")
		notRead(t, strings.Repeat("\xff", n), "all bits set")
		notRead(t, text(n), "a text")
	}
}

// TestP5_1ReadOfTurnedBytes turns each byte of a sector, by each bit alone, and in other ways.
func TestP5_1ReadOfTurnedBytes(t *testing.T) {
	for _, l := range []stamp.Leaf{{Number: 1}, {Number: 1, Data: "hi"}, {Number: 0x0102030405060708, Index: 0x0708, Data: text(104)}, {Number: 1 << 60, Index: 4095, Data: roomOf("")}} {
		s := wholeOf(l)
		for i := range 128 {
			for turn := 1; turn < 256; turn++ {
				b := []byte(s)
				b[i] ^= byte(turn)
				notRead(t, string(b), "a turned byte")
			}
		}
	}
}

// TestP5_1ReadWithRightSum: the sum is that of what stands ahead of it, but something else is wrong.
func TestP5_1ReadWithRightSum(t *testing.T) {
	isRead(t, sectorOf(7, 3, 5, roomOf("hello"), 7), stamp.Leaf{Number: 7, Index: 3, Data: "hello"})
	for _, number := range []int{0, -1, math.MinInt, 1<<60 + 1, 1 << 61, math.MaxInt} {
		notRead(t, sectorOf(number, 3, 5, roomOf("hello"), number), "a number that can't be")
	}
	for _, index := range []int{4096, 4097, 1 << 15, 1<<16 - 1} {
		notRead(t, sectorOf(7, index, 5, roomOf("hello"), 7), "an index that can't be")
	}
	for length := 105; length < 1<<16; length++ {
		notRead(t, sectorOf(7, 3, length, text(104), 7), "a length that is too great")
		notRead(t, sectorOf(7, 3, length, roomOf(""), 7), "a length that is too great, of noughts")
	}
	for length := range 104 {
		for i := length; i < 104; i++ {
			b := []byte(roomOf(text(length)))
			b[i] = 1
			notRead(t, sectorOf(7, 3, length, string(b), 7), "no nought behind Data")
		}
	}
	for _, number := range []int{0, 1, 6, 8, -7, 7 + 256, 7 + 1<<56, 1 << 60, -1} {
		notRead(t, sectorOf(7, 3, 5, roomOf("hello"), number), "another number at the end")
		notRead(t, sectorOf(number, 3, 5, roomOf("hello"), 7), "another number at the beginning")
	}
}

// TestP5_1LengthOfNoughts: what is Data, and what stands behind it, is told by the length alone.
func TestP5_1LengthOfNoughts(t *testing.T) {
	for length := range 105 {
		isRead(t, sectorOf(7, 3, length, roomOf(""), 7), stamp.Leaf{Number: 7, Index: 3, Data: strings.Repeat("\x00", length)})
	}
}

// TestP5_1ReadOfTwo lays the first bytes of one sector ahead of the last ones of another one.
func TestP5_1ReadOfTwo(t *testing.T) {
	numbers := []int{1, 2, 3, 257, 0x0102030405060708, 0x0902030405060708, 1 << 56, 1 << 60}
	for _, a := range numbers {
		for _, b := range numbers {
			if a == b {
				continue
			}
			one, other := stamp.Leaf{Number: a, Index: 5, Data: text(60)}, stamp.Leaf{Number: b, Index: 5, Data: text(104)}
			first, last := wholeOf(one), wholeOf(other)
			for cut := range 129 {
				switch s := first[:cut] + last[cut:]; s {
				case first:
					isRead(t, s, one)
				case last:
					isRead(t, s, other)
				default:
					notRead(t, s, "two sectors' bytes")
				}
			}
			// With all else alike, sum included, unlike numbers at both ends are told.
			notRead(t, first[:120]+last[120:], "the other one's number at the end")
			notRead(t, last[:8]+first[8:], "the other one's number at the beginning")
		}
	}
}

func TestP5_1Count(t *testing.T) {
	for n, want := range map[int]int{
		0: 1, 1: 1, 2: 1, 103: 1, 104: 1, 105: 2, 207: 2, 208: 2, 209: 3, 312: 3, 313: 4,
		104 * 4096: 4096, 104*4096 - 1: 4096, 104*4096 - 104: 4095, 104*4096 + 1: 4097,
		-1: 1, -103: 1, -104: 1, -105: 1, -209: 1, math.MinInt: 1, math.MinInt + 1: 1,
		math.MaxInt: math.MaxInt/104 + 1, math.MaxInt - 1: math.MaxInt/104 + 1, math.MaxInt - 104: math.MaxInt / 104,
	} {
		if many := stamp.Count(n); many != want {
			t.Errorf("Count(%d): %d, not %d", n, many, want)
		}
	}
}

// TestP5_1LayAndTake lays bytes of many lengths at the beginning, in the midst and at the end of a disk, with just the room and more; all other sectors stay.
func TestP5_1LayAndTake(t *testing.T) {
	const sectors = 12
	for _, n := range []int{0, 1, 103, 104, 105, 207, 208, 209, 311, 312, 313, 416} {
		many := (max(n, 1) + 103) / 104
		for from := range sectors {
			for to := from + many; to <= sectors; to++ {
				d := platter.New(sectors)
				var want []string
				for i := range sectors {
					want = append(want, strings.Repeat("\xee", 128))
					put(t, d, i, want[i])
				}
				lasts(t, d)
				laid(t, d, from, to, 9, text(n), api.OK)
				copy(want[from:], partsOf(9, text(n)))
				stands(t, d, want)
				if d.Later() != many || d.Ops() != sectors+1+many {
					t.Fatalf("%d writes, %d operations", d.Later(), d.Ops())
				}
				taken(t, d, from, to, 9, text(n))
				taken(t, d, from, from+many, 9, text(n))
				taken(t, d, from, sectors, 9, text(n))
				stands(t, d, want)
			}
		}
	}
}

// TestP5_1LayIsInOrder: the sectors are written from the first one on, and none is synced.
func TestP5_1LayIsInOrder(t *testing.T) {
	for many := range 5 {
		d := platter.New(8)
		laid(t, d, 2, 7, 9, text(104*4+1), api.OK)
		d.Crash(1<<many-1, -1, 0)
		want := all(t, platter.New(8))
		copy(want[2:2+many], partsOf(9, text(104*4+1)))
		stands(t, d, want)
	}
}

func TestP5_1LayOfTooMany(t *testing.T) {
	d := platter.New(6)
	laid(t, d, 0, 6, 3, text(6*104), api.OK)
	lasts(t, d)
	ops, want := d.Ops(), all(t, d)
	for from := range 7 {
		for to := from; to <= 6; to++ {
			for _, more := range []int{1, 104, 105, 1 << 16} {
				laid(t, d, from, to, 9, text((to-from)*104+more), api.ErrLong)
			}
		}
		// Not even nothing takes no sector.
		laid(t, d, from, from, 9, "", api.ErrLong)
	}
	if d.Ops() != ops {
		t.Error("something was written")
	}
	stands(t, d, want)
}

func TestP5_1LayWithOneSectorLess(t *testing.T) {
	for _, c := range []struct{ from, n int }{{0, 104}, {0, 105}, {0, 209}, {3, 105}, {3, 209}, {5, 312}, {4, 416}, {6, 208}, {7, 1}} {
		d := platter.New(8)
		many := stamp.Count(c.n)
		laid(t, d, c.from, c.from+many-1, 9, text(c.n), api.ErrLong)
		if d.Ops() != 0 {
			t.Error("something was written")
		}
		laid(t, d, c.from, c.from+many, 9, text(c.n), api.OK)
		notTaken(t, d, c.from, c.from+many-1, 9, c.n)
		taken(t, d, c.from, c.from+many, 9, text(c.n))
	}
}

// noPlaces are pairs of places that can't be, on a disk of 6 sectors.
var noPlaces = [][2]int{
	{-1, 0}, {-1, 3}, {-1, 6}, {-1, -1}, {-2, -1}, {-6, 6}, {math.MinInt, 0}, {math.MinInt, 6}, {math.MinInt, math.MinInt}, {math.MinInt, math.MaxInt},
	{1, 0}, {3, 2}, {6, 5}, {6, 0}, {5, -1}, {0, -1}, {0, math.MinInt}, {6, math.MinInt},
	{0, 7}, {3, 7}, {5, 7}, {6, 7}, {7, 7}, {7, 8}, {7, 6}, {0, 4096}, {0, 4097}, {0, math.MaxInt}, {6, math.MaxInt}, {math.MaxInt, math.MaxInt}, {math.MaxInt, 6}, {math.MaxInt, math.MinInt},
}

func TestP5_1NoPlaces(t *testing.T) {
	d := platter.New(6)
	for i := range 6 {
		put(t, d, i, wholeOf(stamp.Leaf{Number: 9, Data: "x"}))
	}
	lasts(t, d)
	ops, want := d.Ops(), all(t, d)
	for _, p := range noPlaces {
		for _, s := range []string{"", "x", text(105), text(1 << 16)} {
			laid(t, d, p[0], p[1], 9, s, api.ErrArg)
		}
		for _, size := range []int{0, 1, 104, -1, 1 << 16} {
			notTaken(t, d, p[0], p[1], 9, size)
		}
	}
	if d.Ops() != ops {
		t.Error("something was written")
	}
	stands(t, d, want)
	for i := range 6 {
		taken(t, d, i, i+1, 9, "x")
		taken(t, d, i, 6, 9, "x")
	}
}

// TestP5_1NumberOfLay: one that can't be is told ahead of bytes that are too many.
func TestP5_1NumberOfLay(t *testing.T) {
	for _, number := range []int{0, -1, -9, math.MinInt, 1<<60 + 1, 1 << 61, math.MaxInt} {
		d := platter.New(6)
		for _, s := range []string{"", "x", text(6 * 104), text(6*104 + 1)} {
			laid(t, d, 0, 6, number, s, api.ErrArg)
			laid(t, d, 3, 3, number, s, api.ErrArg)
		}
		if d.Ops() != 0 {
			t.Errorf("of %d something was written", number)
		}
		notTaken(t, d, 0, 6, number, 0)
		put(t, d, 0, sectorOf(number, 0, 1, roomOf("x"), number))
		notTaken(t, d, 0, 6, number, 1)
		notTaken(t, d, 0, 6, 0, 0)
	}
	for _, number := range []int{1, 2, 256, 1 << 32, 1<<60 - 1, 1 << 60} {
		d := platter.New(6)
		laid(t, d, 1, 5, number, text(300), api.OK)
		taken(t, d, 1, 5, number, text(300))
	}
}

// TestP5_1LayOnAWholeDisk uses each index that can be.
func TestP5_1LayOnAWholeDisk(t *testing.T) {
	d := platter.New(4096)
	s := text(4096 * 104)
	laid(t, d, 0, 4096, 1, s+"x", api.ErrLong)
	laid(t, d, 1, 4096, 1, s, api.ErrLong)
	laid(t, d, 0, 4096, 1<<60, s, api.OK)
	stands(t, d, partsOf(1<<60, s))
	taken(t, d, 0, 4096, 1<<60, s)
	taken(t, d, 0, 4096, 1<<60, s[:4095*104])
	notTaken(t, d, 0, 4096, 1<<60, 4096*104+1)
	notTaken(t, d, 0, 4096, 1<<60, 4096*104-1)
	notTaken(t, d, 0, 4096, 1<<60, math.MaxInt)
	notTaken(t, d, 1, 4096, 1<<60, 104)
}

// TestP5_1DiskRefuses: at each write the disk's error ends it, with what was written ahead of that.
func TestP5_1DiskRefuses(t *testing.T) {
	s := text(5*104 - 3)
	for fails := 1; fails <= 5; fails++ {
		d := platter.New(8)
		laid(t, d, 0, 8, 3, text(8*104), api.OK)
		lasts(t, d)
		want, ops := all(t, d), d.Ops()
		d.Arm(fails)
		laid(t, d, 2, 8, 9, s, api.ErrDisk)
		copy(want[2:], partsOf(9, s)[:fails-1])
		stands(t, d, want)
		if d.Later() != fails-1 || d.Ops() != ops+fails {
			t.Fatalf("of %d: %d writes, %d operations", fails, d.Later(), d.Ops()-ops)
		}
		notTaken(t, d, 2, 8, 9, len(s))
		laid(t, d, 2, 8, 10, s, api.OK)
		taken(t, d, 2, 8, 10, s)
	}
	// One that is to fail behind them all isn't reached; what can't be laid is no operation.
	d := platter.New(8)
	d.Arm(6)
	laid(t, d, 2, 8, 9, text(6*104+1), api.ErrLong)
	laid(t, d, 2, 9, 9, s, api.ErrArg)
	laid(t, d, 2, 8, 9, s, api.OK)
	laid(t, d, 0, 1, 10, "", api.ErrDisk)
}

func TestP5_1TakeOfOthers(t *testing.T) {
	for _, n := range []int{0, 1, 50, 103, 104, 105, 207, 208, 209, 312} {
		d := platter.New(10)
		laid(t, d, 3, 8, 9, text(n), api.OK)
		for _, number := range []int{8, 10, 0, -9, 9 + 256, 9 + 1<<56, 1 << 60, 1, math.MinInt, math.MaxInt} {
			notTaken(t, d, 3, 8, number, n)
		}
		for size := -210; size <= 5*104+1; size++ {
			// Full sectors are taken too, whatever is behind them.
			if size == n || size > 0 && size < n && size%104 == 0 {
				taken(t, d, 3, 8, 9, text(n)[:size])
			} else {
				notTaken(t, d, 3, 8, 9, size)
			}
		}
		for _, size := range []int{math.MinInt, math.MinInt + 1, math.MaxInt, math.MaxInt - 1, n + 1<<32, n - 1<<32} {
			notTaken(t, d, 3, 8, 9, size)
		}
		for _, from := range []int{0, 1, 2, 4, 5, 6, 7, 8} {
			if from != 3+len(partsOf(9, text(n))) {
				notTaken(t, d, from, 8, 9, n)
			}
		}
	}
}

// TestP5_1TakeOfSectorsThatArent: one sector is another one than it should be.
func TestP5_1TakeOfSectorsThatArent(t *testing.T) {
	s := text(3*104 + 20)
	for at := range 4 {
		part := s[at*104 : min(at*104+104, len(s))]
		for why, other := range map[string]string{
			"blank":                  "",
			"of another number":      wholeOf(stamp.Leaf{Number: 8, Index: at, Data: part}),
			"of the next place":      wholeOf(stamp.Leaf{Number: 9, Index: at + 1, Data: part}),
			"of another place":       wholeOf(stamp.Leaf{Number: 9, Index: 4095, Data: part}),
			"one byte shorter":       wholeOf(stamp.Leaf{Number: 9, Index: at, Data: part[1:]}),
			"empty":                  wholeOf(stamp.Leaf{Number: 9, Index: at}),
			"with another number":    sectorOf(9, at, len(part), roomOf(part), 8),
			"with a sum of another":  strings.Replace(wholeOf(stamp.Leaf{Number: 9, Index: at, Data: part}), part[:5], "other", 1),
			"without its last bytes": wholeOf(stamp.Leaf{Number: 9, Index: at, Data: part})[:120],
		} {
			d := platter.New(6)
			laid(t, d, 1, 6, 9, s, api.OK)
			taken(t, d, 1, 6, 9, s)
			put(t, d, 1+at, other)
			if got, ok := stamp.Take(d, 1, 6, 9, len(s)); ok || got != "" {
				t.Errorf("sector %d %s: %q is taken", at, why, got)
			}
			for size := 104; size <= at*104; size += 104 {
				taken(t, d, 1, 6, 9, s[:size])
			}
			put(t, d, 1+at, wholeOf(stamp.Leaf{Number: 9, Index: at, Data: part}))
			taken(t, d, 1, 6, 9, s)
		}
	}
	// A last sector with more than what is asked for, and one with other bytes, that is whole.
	d := platter.New(6)
	laid(t, d, 1, 6, 9, s, api.OK)
	put(t, d, 4, wholeOf(stamp.Leaf{Number: 9, Index: 3, Data: text(21)}))
	notTaken(t, d, 1, 6, 9, len(s))
	taken(t, d, 1, 6, 9, s[:3*104]+text(21))
}

// TestP5_1TakeChangesNothing: nothing is written by it, nor by Greatest.
func TestP5_1TakeChangesNothing(t *testing.T) {
	d := platter.New(6)
	laid(t, d, 1, 6, 9, text(300), api.OK)
	ops, want := d.Ops(), all(t, d)
	for range 3 {
		taken(t, d, 1, 6, 9, text(300))
		notTaken(t, d, 1, 6, 9, 299)
		greatest(t, d, 9)
	}
	if d.Ops() != ops || d.Later() != 3 {
		t.Error("something was written")
	}
	stands(t, d, want)
}

func greatest(t *testing.T, d *platter.Disk, want int) {
	t.Helper()
	if n := stamp.Greatest(d); n != want {
		t.Fatalf("Greatest: %d, not %d", n, want)
	}
}

// eight answers a number's eight bytes.
func eight(n int) string { return string(binary.LittleEndian.AppendUint64(nil, uint64(n))) }

func TestP5_1Greatest(t *testing.T) {
	for _, n := range []int{0, 1, 2, 12, 4096} {
		greatest(t, platter.New(n), 0)
	}
	good := []int{1, 2, 255, 256, 0x0102030405060708, 1 << 32, 1<<60 - 1, 1 << 60}
	bad := []int{0, -1, -2, math.MinInt, 1<<60 + 1, 1<<60 + 1<<32, 1 << 61, 1 << 62, math.MaxInt}
	for _, sectors := range []int{1, 2, 5} {
		for at := range sectors {
			for _, n := range good {
				// Nothing but one end of one sector bears it.
				d := platter.New(sectors)
				put(t, d, at, eight(n))
				greatest(t, d, n)
				put(t, d, at, strings.Repeat("\x00", 120)+eight(n))
				greatest(t, d, n)
				put(t, d, at, wholeOf(stamp.Leaf{Number: n, Data: "x"}))
				greatest(t, d, n)
				for _, b := range bad {
					put(t, d, at, eight(b)+strings.Repeat("\xff", 112)+eight(n))
					greatest(t, d, n)
					put(t, d, at, eight(n)+strings.Repeat("\xff", 112)+eight(b))
					greatest(t, d, n)
					put(t, d, at, eight(b)+strings.Repeat("\xff", 112)+eight(b))
					greatest(t, d, 0)
				}
			}
		}
	}
}

// TestP5_1GreatestIsAtAnEnd: what stands elsewhere in a sector counts for nothing.
func TestP5_1GreatestIsAtAnEnd(t *testing.T) {
	d := platter.New(3)
	put(t, d, 1, eight(3)+strings.Repeat(eight(77), 14)+eight(2))
	greatest(t, d, 3)
	put(t, d, 1, eight(2)+strings.Repeat(eight(77), 14)+eight(3))
	greatest(t, d, 3)
	for at := 1; at < 120; at++ {
		// A byte of 1 makes the number at the beginning greater, or is of neither end.
		put(t, d, 1, strings.Repeat("\x00", at)+"\x01")
		want := 0
		if at < 8 {
			want = 1 << (8 * at)
		}
		greatest(t, d, want)
	}
}

// TestP5_1GreatestOfMany: the greatest one is found, wherever it stands among others.
func TestP5_1GreatestOfMany(t *testing.T) {
	const sectors = 6
	for at := range 2 * sectors {
		d := platter.New(sectors)
		for i := range sectors {
			ends := [2]int{40 + i, 60 - i}
			if i == at/2 {
				ends[at%2] = 1000
			}
			put(t, d, i, eight(ends[0])+strings.Repeat("\xaa", 112)+eight(ends[1]))
		}
		greatest(t, d, 1000)
	}
}

// TestP5_1GreatestOfATornOne: of one that tears the number is found, so that nobody takes it again.
func TestP5_1GreatestOfATornOne(t *testing.T) {
	for cut := range 129 {
		d := platter.New(2)
		laid(t, d, 1, 2, 4, "old", api.OK)
		lasts(t, d)
		laid(t, d, 1, 2, 5, "new", api.OK)
		greatest(t, d, 5)
		d.Crash(0, 0, cut)
		want := 5
		if cut == 0 {
			want = 4
		}
		greatest(t, d, want)
	}
}

func TestP5_1NilDisk(t *testing.T) {
	greatest(t, nil, 0)
	for _, s := range []string{"", "x", text(105)} {
		// A nil disk has no sectors: that many can lie from 0 to 0 alone, and nothing fits there.
		laid(t, nil, 0, 1, 9, s, api.ErrArg)
		laid(t, nil, 0, 4096, 9, s, api.ErrArg)
		laid(t, nil, 1, 1, 9, s, api.ErrArg)
		laid(t, nil, -1, 0, 9, s, api.ErrArg)
		laid(t, nil, 0, 0, 0, s, api.ErrArg)
		laid(t, nil, 0, 0, 9, s, api.ErrLong)
	}
	for _, size := range []int{-1, 0, 1, 104, 105} {
		notTaken(t, nil, 0, 0, 9, size)
		notTaken(t, nil, 0, 1, 9, size)
		notTaken(t, nil, 0, 0, 0, size)
		notTaken(t, nil, -1, 1, 9, size)
	}
	d := platter.New(0)
	laid(t, d, 0, 0, 9, "", api.ErrLong)
	laid(t, d, 0, 1, 9, "", api.ErrArg)
	notTaken(t, d, 0, 0, 9, 0)
	notTaken(t, d, 0, 1, 9, 0)
}

// model is what the chapter says of Lay, Take and Greatest, on sectors as they stand.
type model []string

func (m model) places(from, to int) bool { return 0 <= from && from <= to && to <= len(m) }

func (m model) lay(from, to, number int, s string) api.Errno {
	if number < 1 || number > 1<<60 || !m.places(from, to) {
		return api.ErrArg
	}
	parts := partsOf(number, s)
	if len(parts) > to-from {
		return api.ErrLong
	}
	copy(m[from:], parts)
	return api.OK
}

// take answers bytes, if the sectors are those that bytes of that number and size would be laid as: all but Data is known.
func (m model) take(from, to, number, size int) (string, bool) {
	if !m.places(from, to) || size < 0 || number < 1 || number > 1<<60 {
		return "", false
	}
	s := ""
	for i, left := 0, size; i == 0 || left > 0; i++ {
		if from+i >= to {
			return "", false
		}
		n := min(left, 104)
		data := m[from+i][12 : 12+n]
		if m[from+i] != wholeOf(stamp.Leaf{Number: number, Index: i, Data: data}) {
			return "", false
		}
		s += data
		left -= n
	}
	return s, true
}

func (m model) greatest() int {
	most := 0
	for _, s := range m {
		for _, end := range []string{s[:8], s[120:]} {
			if n := binary.LittleEndian.Uint64([]byte(end)); n <= 1<<60 {
				most = max(most, int(n))
			}
		}
	}
	return most
}

// TestP5_1EveryOrder lays, takes, writes and turns by chance, and holds all answers against the model's.
func TestP5_1EveryOrder(t *testing.T) {
	found := 0
	type asked struct{ from, to, number, size int }
	for seed := range int64(60) {
		random := rand.New(rand.NewSource(seed))
		n := []int{1, 2, 5, 9}[seed%4]
		d, m := platter.New(n), model(all(t, platter.New(n)))
		place := func() int { return random.Intn(n+3) - 1 }
		number := func() int { return []int{1, 2, 3, 1 << 60, 0, 1<<60 + 1}[min(random.Intn(20), random.Intn(6))] }
		size := func() int {
			return []int{0, 1, 103, 104, 105, 208, 209, 312, -1, random.Intn(600)}[random.Intn(10)]
		}
		var last asked
		for range 300 {
			switch random.Intn(4) {
			case 0:
				from, to, which := place(), place(), number()
				b := make([]byte, max(0, size()))
				random.Read(b)
				last = asked{from, to, which, len(b)}
				if got, want := stamp.Lay(d, from, to, which, string(b)), m.lay(from, to, which, string(b)); got != want {
					t.Fatalf("Lay(%d, %d, %d) of %d bytes: %d, not %d", from, to, which, len(b), got, want)
				}
			case 1:
				if i := random.Intn(n); random.Intn(4) == 0 {
					b := []byte(m[i])
					b[random.Intn(128)] ^= 1 << random.Intn(8)
					m[i] = string(b)
					put(t, d, i, m[i])
				}
			}
			for i := range 20 {
				a := asked{place(), place(), number(), size()}
				switch i {
				case 0:
					a = last
				case 1:
					a = asked{last.from, n, last.number, size()}
				}
				got, ok := stamp.Take(d, a.from, a.to, a.number, a.size)
				want, wantOk := m.take(a.from, a.to, a.number, a.size)
				if got != want || ok != wantOk {
					t.Fatalf("Take of %+v: %q, %v; not %q, %v", a, got, ok, want, wantOk)
				}
				if ok {
					found++
				}
			}
			greatest(t, d, m.greatest())
			stands(t, d, m)
		}
	}
	// Else the model and the program might agree upon nothing.
	if found < 1000 {
		t.Errorf("just %d were taken", found)
	}
}

// crashed lays old bytes that last, then new ones by a greater number, and crashes.
func crashed(t *testing.T, old, new string, mask uint64, torn, cut int) *platter.Disk {
	t.Helper()
	d := platter.New(7)
	if old != "" {
		laid(t, d, 1, 6, 0x0104, old, api.OK)
		lasts(t, d)
	}
	laid(t, d, 1, 6, 0x0205, new, api.OK)
	d.Crash(mask, torn, cut)
	return d
}

// olds are what lies where something is laid: nothing, fewer sectors, as many, more; the same bytes too.
func olds() []string {
	return []string{"", text(150), text(4*104 - 5), strings.Repeat("o", 5*104), roomOf("")}
}

// TestP5_2Crashes crashes with each set of the sectors that were laid, and each of them torn at each place.
func TestP5_2Crashes(t *testing.T) {
	for _, old := range olds() {
		for _, n := range []int{0, 1, 104, 4*104 - 5, 4 * 104} {
			s := text(n)
			parts := partsOf(0x0205, s)
			many := len(parts)
			for mask := range uint64(1 << many) {
				for torn := -1; torn < many; torn++ {
					for cut := range 129 {
						if torn < 0 && cut > 0 {
							break
						}
						d := crashed(t, old, s, mask, torn, cut)
						whole := true
						for i := range many {
							here, _ := d.Read(1 + i)
							whole = whole && here == parts[i]
						}
						if whole {
							taken(t, d, 1, 6, 0x0205, s)
						} else {
							notTaken(t, d, 1, 6, 0x0205, n)
						}
						oldIsThere(t, d, old, mask, torn, cut)
					}
				}
			}
		}
	}
}

// oldIsThere holds what was laid ahead to what it was, if nothing persisted of what was laid upon it, and what is taken of it else to being that.
func oldIsThere(t *testing.T, d *platter.Disk, old string, mask uint64, torn, cut int) {
	t.Helper()
	s, ok := stamp.Take(d, 1, 6, 0x0104, len(old))
	if ok && s != old || !ok && s != "" || ok && old == "" {
		t.Fatalf("what was laid ahead: %q, %v", s, ok)
	}
	none := mask == 0 && torn < 0 || mask == 0 && cut == 0 || torn >= 0 && mask == 1<<torn && cut == 0
	if none && old != "" && !ok {
		t.Fatal("what was laid ahead is gone")
	}
}

// TestP5_2CrashesOfAny asks at each crash for whatever may be taken: it is what was laid, or its first whole sectors, or nothing.
func TestP5_2CrashesOfAny(t *testing.T) {
	s := text(3*104 - 1)
	for _, old := range olds() {
		for mask := range uint64(8) {
			for torn := range 3 {
				for _, cut := range []int{0, 1, 2, 7, 8, 9, 10, 12, 13, 64, 115, 116, 118, 120, 121, 122, 127, 128} {
					d := crashed(t, old, s, mask, torn, cut)
					for from := range 7 {
						for _, size := range []int{0, 1, 45, 46, 99, 103, 104, 105, 150, 208, 309, 310, 311, 312, 313, 411, 415, 416, 520} {
							if got, ok := stamp.Take(d, from, 6, 0x0205, size); ok && (from != 1 || got != s[:size]) {
								t.Fatalf("Take(%d, .., %d): %q", from, size, got)
							}
						}
					}
				}
			}
		}
	}
}

// TestP5_2CrashesByNumbers tears one sector, of numbers that have bytes alike, or all but one.
func TestP5_2CrashesByNumbers(t *testing.T) {
	pairs := [][2]int{{1, 2}, {255, 256}, {256, 257}, {0x0101, 0x0201}, {0x010101, 0x010201}, {1<<56 - 1, 1 << 56}, {1 << 56, 1<<56 + 1}, {1 << 59, 1 << 60}, {1<<60 - 1, 1 << 60}, {1 << 32, 1<<32 + 1<<24}}
	for _, p := range pairs {
		for _, same := range []string{"new", "old"} {
			for cut := range 129 {
				d := platter.New(1)
				laid(t, d, 0, 1, p[0], "old", api.OK)
				lasts(t, d)
				laid(t, d, 0, 1, p[1], same, api.OK)
				d.Crash(0, 0, cut)
				here, _ := d.Read(0)
				if here == wholeOf(stamp.Leaf{Number: p[1], Data: same}) {
					taken(t, d, 0, 1, p[1], same)
				} else {
					notTaken(t, d, 0, 1, p[1], 3)
				}
				if cut == 0 {
					taken(t, d, 0, 1, p[0], "old")
				} else if cut == 128 {
					taken(t, d, 0, 1, p[1], same)
				}
			}
		}
	}
}

// TestP5_2AgainAndAgain lays by one number more each time, with a crash behind each that lets some persist, or a sync: what is taken is what was laid by that number.
func TestP5_2AgainAndAgain(t *testing.T) {
	for seed := range int64(20) {
		random := rand.New(rand.NewSource(seed))
		d := platter.New(10)
		var laidBy []string
		for range 60 {
			b := make([]byte, random.Intn(5*104))
			random.Read(b)
			number := stamp.Greatest(d) + 1
			from := random.Intn(5)
			laidBy = append(laidBy[:min(number-1, len(laidBy))], string(b))
			laid(t, d, from, 10, number, string(b), api.OK)
			taken(t, d, from, 10, number, string(b))
			if random.Intn(3) == 0 {
				lasts(t, d)
				d.Crash(0, 0, 0)
				taken(t, d, from, 10, number, string(b))
			} else {
				d.Crash(random.Uint64(), random.Intn(7)-1, random.Intn(131)-1)
			}
			// Those of long ago were asked for behind the crashes of long ago.
			for i := max(0, len(laidBy)-8); i < len(laidBy); i++ {
				s := laidBy[i]
				for place := range 10 {
					for size := range 6 {
						if got, ok := stamp.Take(d, place, 10, i+1, size*104); ok && !strings.HasPrefix(s, got) {
							t.Fatalf("of %d: %q is taken", i+1, got)
						}
					}
					if got, ok := stamp.Take(d, place, 10, i+1, len(s)); ok && got != s {
						t.Fatalf("of %d: %q is taken", i+1, got)
					}
				}
			}
		}
	}
}

// TestP5_2LaidIsTaken: of all lengths.
func TestP5_2LaidIsTaken(t *testing.T) {
	d := platter.New(12)
	for n := range 12*104 + 1 {
		s := text(n)
		laid(t, d, 0, 12, n+1, s, api.OK)
		taken(t, d, 0, 12, n+1, s)
		if n%100 == 0 {
			lasts(t, d)
		}
		if n > 0 {
			notTaken(t, d, 0, 12, n, n-1)
		}
	}
}

// TestP5_2BytesAreRead: what Bytes answers, Read reads.
func TestP5_2BytesAreRead(t *testing.T) {
	for _, l := range leaves() {
		s, err := stamp.Bytes(l)
		if err != api.OK {
			t.Fatalf("Bytes of %+v: %d", l, err)
		}
		isRead(t, s, l)
	}
}
