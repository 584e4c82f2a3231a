package journal_test

import (
	"encoding/binary"
	"hash/crc32"
	"math"
	"math/rand"
	"slices"
	"strings"
	"testing"

	"bondstore/api"
	"bondstore/journal"
	"bondstore/platter"
)

// most is the greatest number of a record, and of a sector.
const most = 1 << 60

var castagnoli = crc32.MakeTable(crc32.Castagnoli)

// little answers a number's lowest bytes, the lowest first.
func little(size, n int) string {
	return string(binary.LittleEndian.AppendUint64(nil, uint64(n))[:size])
}

// headed answers the bytes of a record with what it is told of its length, right or not.
func headed(seq, length int, s string) string { return little(8, seq) + little(4, length) + s }

func recordOf(seq int, s string) string { return headed(seq, len(s), s) }

// leafOf answers a sector with up to 104 bytes, by layer 5's words.
func leafOf(number, index int, data string) string {
	s := little(8, number) + little(2, index) + little(2, len(data)) + data + strings.Repeat("\x00", 104-len(data))
	return s + little(4, int(crc32.Checksum([]byte(s), castagnoli))) + little(8, number)
}

// partsOf answers the sectors in which bytes lie.
func partsOf(number int, s string) []string {
	list := []string{leafOf(number, 0, s[:min(104, len(s))])}
	for i := 104; i < len(s); i += 104 {
		list = append(list, leafOf(number, i/104, s[i:min(i+104, len(s))]))
	}
	return list
}

// takes answers how many sectors a record of n bytes does, its 12 ahead of them included.
func takes(n int) int { return (12 + n + 103) / 104 }

// text answers so many bytes, no two of them in a row alike, and none of them 0.
func text(n int) string {
	b := make([]byte, n)
	for i := range b {
		b[i] = byte(1 + (i*11+i/104)%255)
	}
	return string(b)
}

// lengths are those at which a record takes one sector more, and those at the ends.
var lengths = []int{0, 1, 91, 92, 93, 195, 196, 197, 300, 301, 1 << 10, 1<<15 - 1, 1 << 15}

// put writes a sector as it is, and lasts makes all writes last.
func put(t *testing.T, d *platter.Disk, i int, s string) {
	t.Helper()
	if err := d.Write(i, s); err != api.OK {
		t.Fatalf("Write(%d): %d", i, err)
	}
}

func lasts(t *testing.T, d *platter.Disk) {
	t.Helper()
	if err := d.Sync(); err != api.OK {
		t.Fatalf("Sync: %d", err)
	}
}

// lay writes bytes as sectors from a place on, and answers the place behind them.
func lay(t *testing.T, d *platter.Disk, at, number int, s string) int {
	t.Helper()
	for _, p := range partsOf(number, s) {
		put(t, d, at, p)
		at++
	}
	return at
}

// all answers what stands in all sectors of a disk, and stands holds it to what must.
func all(t *testing.T, d *platter.Disk) []string {
	t.Helper()
	var list []string
	for i := range d.Sectors() {
		s, err := d.Read(i)
		if err != api.OK {
			t.Fatalf("Read(%d): %d", i, err)
		}
		list = append(list, s)
	}
	return list
}

func stands(t *testing.T, d *platter.Disk, want []string) {
	t.Helper()
	for i, s := range all(t, d) {
		if s != want[i] {
			t.Fatalf("sector %d: %q, not %q", i, s, want[i])
		}
	}
}

// filled answers a disk of sectors that are nothing's, and last.
func filled(t *testing.T, n int) *platter.Disk {
	t.Helper()
	d := platter.New(n)
	for i := range n {
		put(t, d, i, strings.Repeat("\xee", 128))
	}
	lasts(t, d)
	return d
}

// is holds what a journal tells of itself to what it must.
func is(t *testing.T, j *journal.Journal, seq, at int, sick bool) {
	t.Helper()
	if j.Seq() != seq || j.At() != at || j.Sick() != sick {
		t.Fatalf("seq %d, at %d, sick %v; not %d, %d, %v", j.Seq(), j.At(), j.Sick(), seq, at, sick)
	}
}

// opened opens a journal, holds its records to those that it must have, and itself to standing behind them; nothing is written.
func opened(t *testing.T, d *platter.Disk, from, to, seq int, want ...string) *journal.Journal {
	t.Helper()
	ops, later := d.Ops(), d.Later()
	j, list, err := journal.Open(d, from, to, seq)
	if err != api.OK || j == nil || !slices.Equal(list, want) {
		t.Fatalf("Open(%d, %d, %d): %q, %d; not %q", from, to, seq, list, err, want)
	}
	at := from
	for _, s := range want {
		at += takes(len(s))
	}
	is(t, j, seq+len(want), at, false)
	if d.Ops() != ops || d.Later() != later {
		t.Fatal("Open wrote something")
	}
	return j
}

func notOpened(t *testing.T, d *platter.Disk, from, to, seq int, want api.Errno) {
	t.Helper()
	if j, list, err := journal.Open(d, from, to, seq); j != nil || len(list) != 0 || err != want {
		t.Fatalf("Open(%d, %d, %d): %v, %q, %d; not %d", from, to, seq, j, list, err, want)
	}
}

// added adds a record that must be added, and holds the journal to having passed it, and the disk to having synced it.
func added(t *testing.T, d *platter.Disk, j *journal.Journal, number int, s string) {
	t.Helper()
	seq, at, ops := j.Seq(), j.At(), d.Ops()
	if err := j.Add(number, s); err != api.OK {
		t.Fatalf("Add(%d) of %d bytes: %d", number, len(s), err)
	}
	is(t, j, seq+1, at+takes(len(s)), false)
	if d.Later() != 0 || d.Ops() != ops+takes(len(s))+1 {
		t.Fatalf("Add of %d bytes: %d operations, %d writes wait", len(s), d.Ops()-ops, d.Later())
	}
}

// notAdded adds a record that must not be added, and holds all to being as it was.
func notAdded(t *testing.T, d *platter.Disk, j *journal.Journal, number int, s string, want api.Errno) {
	t.Helper()
	seq, at, sick, ops := j.Seq(), j.At(), j.Sick(), d.Ops()
	if err := j.Add(number, s); err != want {
		t.Fatalf("Add(%d) of %d bytes: %d, not %d", number, len(s), err, want)
	}
	is(t, j, seq, at, sick)
	if d.Ops() != ops {
		t.Fatal("something was written")
	}
}

// refused adds a record at one of whose operations the disk refuses.
func refused(t *testing.T, d *platter.Disk, j *journal.Journal, op, number int, s string) {
	t.Helper()
	seq, at, ops := j.Seq(), j.At(), d.Ops()
	d.Arm(op)
	if err := j.Add(number, s); err != api.ErrDisk {
		t.Fatalf("Add, operation %d refused: %d", op, err)
	}
	is(t, j, seq, at, true)
	if d.Ops() != ops+op {
		t.Fatalf("operation %d was refused, and %d were tried", op, d.Ops()-ops)
	}
}

// room holds what a journal answers of its room to that of so many sectors.
func room(t *testing.T, j *journal.Journal, sectors int) {
	t.Helper()
	fits := min(104*sectors-12, 1<<15)
	for _, n := range []int{math.MinInt, -1 << 32, -105, -104, -13, -12, -1, 0, 1, 91, 92, 93, fits - 1, fits, fits + 1, fits + 104, 1 << 15, 1<<15 + 1, 1 << 16, 1 << 32, math.MaxInt - 12, math.MaxInt} {
		if want := n >= 0 && n <= fits; j.Room(n) != want {
			t.Fatalf("Room(%d) of %d sectors: %v", n, sectors, !want)
		}
	}
}

func TestP6_1MaxRecord(t *testing.T) {
	if journal.MaxRecord != 32768 {
		t.Errorf("MaxRecord is %d", journal.MaxRecord)
	}
}

// TestP6_1Example is the chapter's.
func TestP6_1Example(t *testing.T) {
	d := platter.New(4)
	j := opened(t, d, 0, 4, 0)
	added(t, d, j, 1, "a")
	opened(t, d, 0, 4, 0, "a")
}

// TestP6_1SectorByHand holds a record's sector to bytes that are written out.
func TestP6_1SectorByHand(t *testing.T) {
	d := platter.New(3)
	j := opened(t, d, 1, 3, 0x0807060504030200)
	added(t, d, j, 0x0102030405060708, "hello")
	number := "\x08\x07\x06\x05\x04\x03\x02\x01"
	ahead := number + "\x00\x00" + "\x11\x00" + "\x01\x02\x03\x04\x05\x06\x07\x08" + "\x05\x00\x00\x00" + "hello" + strings.Repeat("\x00", 87)
	sum := crc32.Checksum([]byte(ahead), castagnoli)
	want := ahead + string([]byte{byte(sum), byte(sum >> 8), byte(sum >> 16), byte(sum >> 24)}) + number
	blank := strings.Repeat("\x00", 128)
	stands(t, d, []string{blank, want, blank})
}

// TestP6_1Sectors holds each sector of records of all lengths, at several places, to the chapter's words; all others stay.
func TestP6_1Sectors(t *testing.T) {
	const sectors = 330
	for i, n := range lengths {
		for _, from := range []int{0, 1, sectors - takes(n)} {
			for _, to := range []int{from + takes(n), sectors} {
				d := filled(t, sectors)
				seq := []int{0, 1, 254, 255, 256, 1 << 32, most - 1}[i%7]
				number := []int{1, 2, 256, 0x0102030405060708, 1 << 40, most}[i%6]
				j := opened(t, d, from, to, seq)
				added(t, d, j, number, text(n))
				want := all(t, filled(t, sectors))
				copy(want[from:], partsOf(number, recordOf(seq+1, text(n))))
				stands(t, d, want)
				d.Crash(0, 0, 0)
				stands(t, d, want)
				opened(t, d, from, to, seq, text(n))
			}
		}
	}
}

// TestP6_1OneBehindAnother holds the sectors of many records to the chapter's words.
func TestP6_1OneBehindAnother(t *testing.T) {
	const from, to, seq = 3, 400, 77
	d := platter.New(402)
	j := opened(t, d, from, to, seq)
	want, at := all(t, d), from
	var list []string
	for i, n := range []int{0, 1, 92, 93, 196, 197, 1 << 15, 0, 0, 300, 301, 5} {
		s := text(n)
		added(t, d, j, 1000-7*i, s)
		list = append(list, s)
		at += copy(want[at:], partsOf(1000-7*i, recordOf(seq+1+i, s)))
		is(t, j, seq+1+i, at, false)
		stands(t, d, want)
		opened(t, d, from, to, seq, list...)
	}
}

func TestP6_1OpenOfNoDisk(t *testing.T) {
	for _, c := range [][3]int{{0, 0, 0}, {0, 1, 0}, {2, 10, 5}, {-1, 1, 0}, {1, 0, 0}, {0, 1, -1}, {0, 1, most + 1}, {math.MinInt, math.MaxInt, math.MinInt}} {
		notOpened(t, nil, c[0], c[1], c[2], api.ErrNil)
	}
}

func TestP6_1OpenOfPlaces(t *testing.T) {
	d := platter.New(6)
	for i := range 6 {
		lay(t, d, i, i+1, recordOf(1, "x"))
	}
	lasts(t, d)
	ends := []int{math.MinInt, math.MinInt + 1, -1 << 32, -7, -6, -2, -1, 0, 1, 2, 3, 4, 5, 6, 7, 8, 12, 4095, 4096, 4097, 1 << 32, 1<<32 + 3, math.MaxInt - 1, math.MaxInt}
	for _, from := range ends {
		for _, to := range ends {
			if 0 <= from && from < to && to <= 6 {
				opened(t, d, from, to, 0, "x")
				opened(t, d, from, to, 1)
			} else {
				notOpened(t, d, from, to, 0, api.ErrArg)
				notOpened(t, d, from, to, most, api.ErrArg)
				notOpened(t, d, from, to, -1, api.ErrArg)
			}
		}
	}
	for _, from := range ends {
		for _, to := range ends {
			notOpened(t, platter.New(0), from, to, 0, api.ErrArg)
		}
	}
	opened(t, platter.New(1), 0, 1, 0)
	notOpened(t, platter.New(1), 1, 1, 0, api.ErrArg)
	opened(t, platter.New(4096), 0, 4096, 0)
	opened(t, platter.New(4096), 4095, 4096, 0)
}

func TestP6_1OpenOfSeqs(t *testing.T) {
	d := platter.New(4)
	for _, seq := range []int{-1, -2, -1 << 60, -1<<60 - 1, math.MinInt, math.MinInt + 1, most + 1, most + 2, 1 << 61, 1 << 62, math.MaxInt} {
		notOpened(t, d, 0, 4, seq, api.ErrArg)
	}
	for _, seq := range []int{0, 1, 2, 255, 1 << 32, most - 1, most} {
		opened(t, d, 0, 4, seq)
		lay(t, d, 0, 5, recordOf(seq, "the last one of those"))
		opened(t, d, 0, 4, seq)
		if seq < most {
			lay(t, d, 0, 5, recordOf(seq+1, "the next one"))
			opened(t, d, 0, 4, seq, "the next one")
		}
	}
}

// TestP6_1OpenOfNoRecords: of sectors that are blank, or of any bytes.
func TestP6_1OpenOfNoRecords(t *testing.T) {
	random := rand.New(rand.NewSource(6))
	for range 50 {
		for _, fill := range []func(i int) string{
			func(int) string { return "" },
			func(int) string { return strings.Repeat("\xff", 128) },
			func(int) string { return strings.Repeat("\x01", 128) },
			func(int) string { return text(128) },
			func(int) string { b := make([]byte, 128); random.Read(b); return string(b) },
			func(int) string { return recordOf(1, "no leaf") },
			func(int) string { return leafOf(1, 0, recordOf(1, "no end"))[:120] },
		} {
			d := platter.New(5)
			for i := range 5 {
				put(t, d, i, fill(i))
			}
			for _, seq := range []int{0, 1, most} {
				opened(t, d, 0, 5, seq)
				opened(t, d, 2, 4, seq)
			}
			// One that is added stands ahead of them.
			added(t, d, opened(t, d, 1, 5, 0), 1, text(100))
			opened(t, d, 1, 5, 0, text(100))
		}
	}
}

// TestP6_1OpenOfTurnedBits: with one bit turned, wherever, that record isn't there, nor are those behind it.
func TestP6_1OpenOfTurnedBits(t *testing.T) {
	list := []string{"first", text(150), "last"}
	base := platter.New(5)
	at := 0
	for i, s := range list {
		at = lay(t, base, at, 4+i, recordOf(1+i, s))
	}
	opened(t, base, 0, 5, 0, list...)
	whole := all(t, base)
	for i, s := range whole[:4] {
		there := list[:[]int{0, 1, 1, 2}[i]]
		for bit := range 8 * 128 {
			b := []byte(s)
			b[bit/8] ^= 1 << (bit % 8)
			put(t, base, i, string(b))
			opened(t, base, 0, 5, 0, there...)
		}
		put(t, base, i, s)
	}
	opened(t, base, 0, 5, 0, list...)
}

// TestP6_1OpenOfOtherSeqs: records are there while each has the number behind that of the one ahead.
func TestP6_1OpenOfOtherSeqs(t *testing.T) {
	for _, c := range []struct {
		seq  int
		seqs []int
		many int
	}{
		{0, []int{1, 2, 3, 4}, 4}, {0, []int{0, 1, 2, 3}, 0}, {0, []int{2, 3, 4}, 0}, {0, []int{-1, 1}, 0},
		{0, []int{1, 1, 2}, 1}, {0, []int{1, 3, 2}, 1}, {0, []int{1, 2, 4, 3}, 2}, {0, []int{1, 2, 3, 3, 4}, 3}, {0, []int{1, 2, 1, 2, 3}, 2}, {0, []int{1, 0, 1}, 1}, {0, []int{1, -2, 2}, 1},
		{0, []int{1 + 1<<8, 2}, 0}, {0, []int{1 + 1<<32, 2}, 0}, {0, []int{math.MinInt + 1, 2}, 0},
		{1, []int{1, 2}, 0}, {1, []int{2, 3}, 2}, {1, []int{3, 4}, 0},
		{255, []int{256, 257, 1}, 2}, {1 << 32, []int{1<<32 + 1, 1<<32 + 2, 1<<32 + 2}, 2}, {most - 2, []int{most - 1, most}, 2},
	} {
		d := platter.New(30)
		var want []string
		at := 3
		for i, seq := range c.seqs {
			s := text(60 + 40*i)
			at = lay(t, d, at, 50-i, recordOf(seq, s))
			if i < c.many {
				want = append(want, s)
			}
		}
		j := opened(t, d, 3, 30, c.seq, want...)
		// The next one is laid over what isn't there.
		if j.Seq() < most {
			added(t, d, j, 90, "next")
			opened(t, d, 3, j.At(), c.seq, append(want, "next")...)
		}
	}
}

// TestP6_1OpenBehindAGap: what lies behind a place where no record begins isn't there.
func TestP6_1OpenBehindAGap(t *testing.T) {
	d := platter.New(8)
	lay(t, d, 2, 5, recordOf(1, "one"))
	lay(t, d, 4, 6, recordOf(2, "two"))
	opened(t, d, 1, 8, 0)
	opened(t, d, 2, 8, 0, "one")
	opened(t, d, 3, 8, 1)
	opened(t, d, 4, 8, 1, "two")
	lay(t, d, 3, 7, recordOf(2, "another two"))
	opened(t, d, 2, 8, 0, "one", "another two")
}

// TestP6_1OpenOfCutShort: of a record's bytes the last ones, or the last sectors, aren't there.
func TestP6_1OpenOfCutShort(t *testing.T) {
	for _, n := range []int{0, 1, 92, 93, 196, 197, 250} {
		whole := recordOf(2, text(n))
		for cut := range len(whole) {
			d := platter.New(8)
			at := lay(t, d, 0, 4, recordOf(1, "ahead"))
			lay(t, d, at, 5, whole[:cut])
			opened(t, d, 0, 8, 0, "ahead")
		}
		parts := partsOf(5, whole)
		for gone := range parts {
			for _, other := range []string{"", strings.Repeat("\xff", 128), parts[gone][:120], leafOf(5, gone, "")} {
				d := platter.New(8)
				at := lay(t, d, 0, 4, recordOf(1, "ahead"))
				lay(t, d, at, 5, whole)
				lay(t, d, at+len(parts), 6, recordOf(3, "behind"))
				opened(t, d, 0, 8, 0, "ahead", text(n), "behind")
				put(t, d, at+gone, other)
				opened(t, d, 0, 8, 0, "ahead")
				put(t, d, at+gone, parts[gone])
				opened(t, d, 0, 8, 0, "ahead", text(n), "behind")
			}
		}
	}
}

// TestP6_1OpenOfNoHead: a sector that is whole, but has too few bytes for a record's number and length.
func TestP6_1OpenOfNoHead(t *testing.T) {
	for n := range 12 {
		for _, whole := range []string{recordOf(1, ""), little(8, 1) + "\x01\x00\x00\x00"} {
			d := platter.New(3)
			lay(t, d, 0, 4, whole[:n])
			opened(t, d, 0, 3, 0)
		}
	}
}

// TestP6_1OpenBeyondTheEnd: a record that goes beyond the place where the journal ends isn't there, though it is on the disk.
func TestP6_1OpenBeyondTheEnd(t *testing.T) {
	for _, n := range []int{0, 92, 93, 196, 197, 500} {
		d := platter.New(20)
		at := lay(t, d, 2, 4, recordOf(1, text(150)))
		end := lay(t, d, at, 5, recordOf(2, text(n)))
		lay(t, d, end, 6, recordOf(3, "behind"))
		for to := 3; to <= 20; to++ {
			switch {
			case to < at:
				opened(t, d, 2, to, 0)
			case to < end:
				opened(t, d, 2, to, 0, text(150))
			case to == end:
				opened(t, d, 2, to, 0, text(150), text(n))
			default:
				opened(t, d, 2, to, 0, text(150), text(n), "behind")
			}
		}
	}
	// The last sectors of a disk, and what would go beyond them.
	d := platter.New(6)
	lay(t, d, 4, 5, recordOf(1, text(196)))
	opened(t, d, 4, 6, 0, text(196))
	put(t, d, 4, partsOf(5, recordOf(1, text(300)))[0])
	put(t, d, 5, partsOf(5, recordOf(1, text(300)))[1])
	opened(t, d, 4, 6, 0)
}

// TestP6_1OpenOfOtherLengths: the length that stands ahead isn't that of the bytes behind it.
func TestP6_1OpenOfOtherLengths(t *testing.T) {
	for _, n := range []int{0, 1, 91, 92, 93, 150, 195, 196, 197} {
		for length := range 420 {
			d := platter.New(8)
			at := lay(t, d, 0, 4, recordOf(1, "ahead"))
			lay(t, d, at, 5, headed(2, length, text(n)))
			switch {
			case length == n:
				opened(t, d, 0, 8, 0, "ahead", text(n))
			case length < n && (12+length)%104 == 0:
				// So many bytes lie there, in full sectors, whatever is behind them.
				opened(t, d, 0, 8, 0, "ahead", text(length))
			default:
				opened(t, d, 0, 8, 0, "ahead")
			}
		}
		for _, length := range []int{n + 1<<8, n + 1<<16, n + 1<<24, n + 1<<31, 1<<15 + 1, 1<<31 - 1, 1 << 31, 1<<32 - 1, 1<<32 - 12, 1<<32 - 13} {
			d := platter.New(8)
			lay(t, d, 0, 5, headed(1, length, text(n)))
			opened(t, d, 0, 8, 0)
		}
	}
}

// TestP6_1OpenOfTooLong: a record has no more than MaxRecord bytes, though they are all there.
func TestP6_1OpenOfTooLong(t *testing.T) {
	for n, there := range map[int]bool{1<<15 - 1: true, 1 << 15: true, 1<<15 + 1: false, 1<<15 + 104: false, 1 << 16: false, 1<<16 + 1: false} {
		d := platter.New(700)
		lay(t, d, 0, 5, recordOf(1, text(n)))
		if there {
			opened(t, d, 0, 700, 0, text(n))
		} else {
			opened(t, d, 0, 700, 0)
		}
	}
}

// TestP6_1OpenOfOtherSectors: one of a record's sectors, each whole, is of another number, or has another index or length.
func TestP6_1OpenOfOtherSectors(t *testing.T) {
	whole := recordOf(2, text(3*104))
	for i := range 4 {
		part := whole[i*104 : min(i*104+104, len(whole))]
		for why, other := range map[string]string{
			"another number":      leafOf(6, i, part),
			"that ahead":          leafOf(4, i, part),
			"a far number":        leafOf(5+1<<56, i, part),
			"the index behind":    leafOf(5, i+1, part),
			"the last index":      leafOf(5, 4095, part),
			"one byte less":       leafOf(5, i, part[:len(part)-1]),
			"nothing":             leafOf(5, i, ""),
			"a record of its own": leafOf(6, 0, recordOf(3, "x")),
		} {
			d := platter.New(8)
			lay(t, d, 1, 4, recordOf(1, "ahead"))
			lay(t, d, 2, 5, whole)
			lay(t, d, 6, 6, recordOf(3, "behind"))
			opened(t, d, 1, 8, 0, "ahead", text(3*104), "behind")
			put(t, d, 2+i, other)
			if _, list, _ := journal.Open(d, 1, 8, 0); !slices.Equal(list, []string{"ahead"}) {
				t.Errorf("sector %d, %s: %q", i, why, list)
			}
		}
	}
	// All of them are of the other number.
	d := platter.New(8)
	lay(t, d, 1, 4, recordOf(1, "ahead"))
	lay(t, d, 2, 4, whole)
	opened(t, d, 1, 8, 0, "ahead", text(3*104))
}

// TestP6_1OpenWithinARecord: a record begins at a sector of Index 0 alone, whatever bytes are in those behind it.
func TestP6_1OpenWithinARecord(t *testing.T) {
	d := platter.New(6)
	j := opened(t, d, 0, 6, 0)
	s := text(92) + recordOf(1, "within") + text(300)
	added(t, d, j, 5, s)
	for from := 1; from < 6; from++ {
		opened(t, d, from, 6, 0)
	}
	opened(t, d, 0, 6, 0, s)
	put(t, d, 2, leafOf(5, 1, recordOf(1, "by itself")))
	opened(t, d, 2, 6, 0)
	put(t, d, 2, leafOf(5, 0, recordOf(1, "by itself")))
	opened(t, d, 2, 6, 0, "by itself")
}

func TestP6_1Room(t *testing.T) {
	for _, sectors := range []int{1, 2, 3, 5, 314, 315, 316, 317, 400} {
		d := platter.New(402)
		j := opened(t, d, 1, 1+sectors, 9)
		room(t, j, sectors)
		is(t, j, 9, 1, false)
		// Behind records, and behind those that were there when it was opened, there is so much less.
		for i, n := range []int{0, 92, 93, 200, 0} {
			if takes(n) > sectors {
				break
			}
			added(t, d, j, 5+i, text(n))
			sectors -= takes(n)
			room(t, j, sectors)
			if j.At() < 402 {
				_, list, _ := journal.Open(d, 1, j.At()+sectors, 9)
				room(t, opened(t, d, 1, j.At()+sectors, 9, list...), sectors)
			}
		}
		if d.Later() != 0 {
			t.Fatal("Room wrote something")
		}
	}
}

func TestP6_1AddNumbers(t *testing.T) {
	d := platter.New(6)
	j := opened(t, d, 1, 4, 0)
	wrong := []int{0, -1, -2, math.MinInt, math.MinInt + 1, -1 << 60, most + 1, most + 2, 1 << 61, 1 << 62, math.MaxInt}
	for _, number := range wrong {
		// What else is wrong with it is told behind that.
		for _, n := range []int{0, 1, 300, 301, 1 << 15, 1<<15 + 1} {
			notAdded(t, d, j, number, text(n), api.ErrArg)
		}
	}
	added(t, d, j, most, "the greatest")
	added(t, d, j, 1, "the least")
	added(t, d, j, most-1, "the one ahead of the greatest")
	for _, number := range wrong {
		notAdded(t, d, j, number, "", api.ErrArg)
	}
	stands(t, d, []string{strings.Repeat("\x00", 128), leafOf(most, 0, recordOf(1, "the greatest")), leafOf(1, 0, recordOf(2, "the least")), leafOf(most-1, 0, recordOf(3, "the one ahead of the greatest")), strings.Repeat("\x00", 128), strings.Repeat("\x00", 128)})
	opened(t, d, 1, 4, 0, "the greatest", "the least", "the one ahead of the greatest")
}

// TestP6_1AddWithJustTheRoom fills the sectors up, and tries with one less, and with one byte more.
func TestP6_1AddWithJustTheRoom(t *testing.T) {
	for _, n := range lengths {
		for _, ahead := range []string{"", text(92), text(93), text(300)} {
			many := takes(len(ahead)) + takes(n)
			d := filled(t, 330)
			j := opened(t, d, 2, 2+many-1, 0)
			added(t, d, j, 5, ahead)
			notAdded(t, d, j, 6, text(n), api.ErrFull)
			opened(t, d, 2, 2+many-1, 0, ahead)
			d = filled(t, 330)
			j = opened(t, d, 2, 2+many, 0)
			added(t, d, j, 5, ahead)
			notAdded(t, d, j, 6, text(takes(n)*104-12+1), api.ErrFull)
			added(t, d, j, 6, text(n))
			is(t, j, 2, 2+many, false)
			notAdded(t, d, j, 7, "", api.ErrFull)
			opened(t, d, 2, 2+many, 0, ahead, text(n))
			// What is full stays so when it is opened.
			notAdded(t, d, opened(t, d, 2, 2+many, 0, ahead, text(n)), 7, "", api.ErrFull)
		}
	}
}

func TestP6_1AddOfTooLong(t *testing.T) {
	d := platter.New(4096)
	j := opened(t, d, 0, 4096, 0)
	for _, n := range []int{1<<15 + 1, 1<<15 + 12, 1 << 16, 1 << 20} {
		notAdded(t, d, j, 5, text(n), api.ErrFull)
	}
	added(t, d, j, 5, text(1<<15))
	opened(t, d, 0, 4096, 0, text(1<<15))
}

func TestP6_1TheLastNumber(t *testing.T) {
	d := platter.New(8)
	j := opened(t, d, 0, 8, most-2)
	added(t, d, j, 5, "one ahead of the last")
	added(t, d, j, 6, "the last")
	is(t, j, most, 2, false)
	for range 2 {
		notAdded(t, d, j, 7, "", api.ErrFull)
		notAdded(t, d, j, 0, "", api.ErrArg)
		j.Restart()
	}
	opened(t, d, 0, 8, most-2, "one ahead of the last", "the last")
	notAdded(t, d, opened(t, d, 0, 8, most), 7, "", api.ErrFull)
	// There is no record behind the last one.
	lay(t, d, 2, 7, recordOf(most+1, "none"))
	opened(t, d, 0, 8, most-2, "one ahead of the last", "the last")
	opened(t, d, 2, 8, most)
	opened(t, d, 1, 8, most-1, "the last")
}

// TestP6_1DiskRefuses: at each write, and at the sync, of records of several lengths, ahead of which others lie.
func TestP6_1DiskRefuses(t *testing.T) {
	for _, n := range []int{0, 1, 92, 93, 196, 197, 400, 1 << 15} {
		s := text(n)
		for op := 1; op <= takes(n)+1; op++ {
			if op > 7 && op < takes(n)-1 {
				// A record of many sectors is asked for at both its ends.
				continue
			}
			d := platter.New(330)
			j := opened(t, d, 2, 330, 0)
			added(t, d, j, 1, "ahead")
			added(t, d, j, 2, text(100))
			want := all(t, d)
			refused(t, d, j, op, 3, s)
			copy(want[5:], partsOf(3, recordOf(3, s))[:op-1])
			stands(t, d, want)
			if d.Later() != op-1 {
				t.Fatalf("%d writes wait", d.Later())
			}
			isSick(t, d, j)
			stands(t, d, want)
			d.Crash(0, -1, 0)
			k := opened(t, d, 2, 330, 0, "ahead", text(100))
			isSick(t, d, j)
			added(t, d, k, 4, s)
			isSick(t, d, j)
			opened(t, d, 2, 330, 0, "ahead", text(100), s)
		}
	}
}

// isSick holds a journal, with two records, 5 the next place, to answering so, whatever is added, with Restart too.
func isSick(t *testing.T, d *platter.Disk, j *journal.Journal) {
	t.Helper()
	at := j.At()
	for range 2 {
		is(t, j, 2, at, true)
		for _, number := range []int{3, 4, 0, -1, most + 1} {
			for _, s := range []string{"", "x", text(1<<15 + 1)} {
				notAdded(t, d, j, number, s, api.ErrSick)
			}
		}
		room(t, j, 330-at)
		j.Restart()
		at = 2
	}
}

// TestP6_1SickAndRestarted: a Restart makes it begin at the first place, and no less sick.
func TestP6_1SickAndRestarted(t *testing.T) {
	d := platter.New(5)
	j := opened(t, d, 1, 5, 0)
	added(t, d, j, 1, "one")
	refused(t, d, j, 2, 2, "two")
	is(t, j, 1, 2, true)
	j.Restart()
	is(t, j, 1, 1, true)
	notAdded(t, d, j, 3, "two", api.ErrSick)
	// The sync was refused, but what was written is read: without a crash it is there.
	opened(t, d, 1, 5, 0, "one", "two")
	d.Crash(0, -1, 0)
	opened(t, d, 1, 5, 0, "one")
}

// TestP6_1RefusedElsewhere: what the disk refuses somebody else makes no journal sick, nor does what is armed for later on.
func TestP6_1RefusedElsewhere(t *testing.T) {
	d := platter.New(8)
	j, k := opened(t, d, 0, 4, 0), opened(t, d, 4, 8, 10)
	refused(t, d, k, 1, 1, "x")
	is(t, j, 0, 0, false)
	d.Arm(1)
	if d.Write(7, "x") != api.ErrDisk {
		t.Error("it isn't refused")
	}
	d.Arm(3)
	notAdded(t, d, j, 0, "x", api.ErrArg)
	notAdded(t, d, j, 1, text(500), api.ErrFull)
	notAdded(t, d, k, 1, "x", api.ErrSick)
	added(t, d, j, 1, "x")
	refused(t, d, j, 1, 2, "y")
}

func TestP6_1NilJournal(t *testing.T) {
	var j *journal.Journal
	for range 2 {
		is(t, j, 0, 0, false)
		for _, n := range []int{math.MinInt, -1, 0, 1, 92, 1 << 15, math.MaxInt} {
			if j.Room(n) {
				t.Errorf("Room(%d)", n)
			}
		}
		for _, number := range []int{math.MinInt, -1, 0, 1, most, most + 1, math.MaxInt} {
			for _, s := range []string{"", "x", text(1<<15 + 1)} {
				if err := j.Add(number, s); err != api.ErrNil {
					t.Errorf("Add(%d): %d", number, err)
				}
			}
		}
		j.Restart()
	}
}

// TestP6_1JournalsKnowNothingOfOneAnother: of two disks, and of one, but for what lies on it.
func TestP6_1JournalsKnowNothingOfOneAnother(t *testing.T) {
	d, e := platter.New(9), platter.New(9)
	a, b, c := opened(t, d, 0, 4, 0), opened(t, d, 4, 9, 7), opened(t, e, 0, 9, 0)
	added(t, d, a, 1, "a")
	added(t, d, b, 2, text(300))
	added(t, e, c, 1, "c")
	is(t, a, 1, 1, false)
	is(t, b, 8, 7, false)
	is(t, c, 1, 1, false)
	a.Restart()
	is(t, b, 8, 7, false)
	refused(t, d, b, 1, 3, "x")
	is(t, a, 1, 0, false)
	is(t, c, 1, 1, false)
	added(t, d, a, 4, "a again")
	opened(t, d, 0, 4, 1, "a again")
	opened(t, d, 4, 9, 7, text(300))
	opened(t, e, 0, 9, 0, "c")
}

// TestP6_1AnswersStay: the records that were answered are new memory, and no later call changes them.
func TestP6_1AnswersStay(t *testing.T) {
	d := platter.New(6)
	j := opened(t, d, 0, 6, 0)
	added(t, d, j, 1, "one")
	added(t, d, j, 2, "two")
	k, list, _ := journal.Open(d, 0, 6, 0)
	_, other, _ := journal.Open(d, 0, 6, 0)
	list[0] = "x"
	_ = append(list[:1], "y")
	j.Restart()
	added(t, d, j, 3, "three")
	added(t, d, k, 4, "another three")
	d.Crash(0, -1, 0)
	if !slices.Equal(other, []string{"one", "two"}) {
		t.Errorf("%q", other)
	}
	is(t, k, 3, 3, false)
}

// model is what the chapter says of a journal, on sectors as they stand.
type model struct {
	stands    []string
	from, end int
	ahead     int // how many records the first place is behind
	at, seq   int
	sick      bool
	refuses   int // which operation from now on the disk refuses; none of 0
}

// leaf answers what stands in a sector, if that is whole: it is, if it would be laid so.
func (m *model) leaf(i int) (number, index int, data string, ok bool) {
	b := []byte(m.stands[i])
	number, index = int(binary.LittleEndian.Uint64(b)), int(binary.LittleEndian.Uint16(b[8:]))
	n := int(binary.LittleEndian.Uint16(b[10:]))
	if number < 1 || number > most || index > 4095 || n > 104 {
		return 0, 0, "", false
	}
	data = string(b[12 : 12+n])
	return number, index, data, leafOf(number, index, data) == m.stands[i]
}

// next answers the record at the next place, if there is one: all sectors that would be laid for it stand there.
func (m *model) next() (string, bool) {
	if m.at == m.end || m.seq == most {
		return "", false
	}
	number, _, data, ok := m.leaf(m.at)
	if !ok || len(data) < 12 {
		return "", false
	}
	n := int(binary.LittleEndian.Uint32([]byte(data[8:])))
	if n > 1<<15 || m.at+takes(n) > m.end {
		return "", false
	}
	bytes := ""
	for i := range takes(n) {
		_, _, data, _ := m.leaf(m.at + i)
		bytes += data
	}
	if len(bytes) != 12+n || !slices.Equal(partsOf(number, recordOf(m.seq+1, bytes[12:])), m.stands[m.at:m.at+takes(n)]) {
		return "", false
	}
	return bytes[12:], true
}

func (m *model) open(from, to, seq int) []string {
	m.from, m.end, m.ahead, m.at, m.seq, m.sick = from, to, seq, from, seq, false
	var list []string
	for {
		s, ok := m.next()
		if !ok {
			return list
		}
		list = append(list, s)
		m.at += takes(len(s))
		m.seq++
	}
}

func (m *model) room(n int) bool { return 0 <= n && n <= 1<<15 && m.at+takes(n) <= m.end }

func (m *model) add(number int, s string) api.Errno {
	switch {
	case m.sick:
		return api.ErrSick
	case number < 1 || number > most:
		return api.ErrArg
	case !m.room(len(s)) || m.seq == most:
		return api.ErrFull
	}
	parts := partsOf(number, recordOf(m.seq+1, s))
	if m.refuses > 0 && m.refuses <= len(parts)+1 {
		copy(m.stands[m.at:], parts[:m.refuses-1])
		m.sick, m.refuses = true, 0
		return api.ErrDisk
	}
	copy(m.stands[m.at:], parts)
	if m.refuses > 0 {
		m.refuses -= len(parts) + 1
	}
	m.at += len(parts)
	m.seq++
	return api.OK
}

// chanceOpen opens by chance, most often where and behind what the journal began, or was restarted.
func chanceOpen(t *testing.T, random *rand.Rand, d *platter.Disk, m *model) (*journal.Journal, int) {
	t.Helper()
	from, to, seq := m.from, m.end, m.ahead
	n := len(m.stands)
	if to == 0 || random.Intn(8) == 0 {
		from = random.Intn(min(n, 2))
		to = n - random.Intn(min(n-from, 2))
	}
	if random.Intn(8) == 0 {
		seq = []int{0, 1, 2, m.seq, most - 6, most - 2, most - 1, most}[random.Intn(8)]
	}
	want := m.open(from, to, seq)
	return opened(t, d, from, to, seq, want...), len(want)
}

// chanceAdd adds by chance.
func chanceAdd(t *testing.T, random *rand.Rand, j *journal.Journal, m *model) {
	t.Helper()
	number := random.Intn(1000) + 1
	if random.Intn(6) == 0 {
		number = []int{0, 1, most, most + 1}[random.Intn(4)]
	}
	s := text([]int{0, 1, 91, 92, 93, 196, 197, 300, random.Intn(700)}[random.Intn(9)])
	if got, want := j.Add(number, s), m.add(number, s); got != want {
		t.Fatalf("Add(%d) of %d bytes: %d, not %d", number, len(s), got, want)
	}
}

// TestP6_1EveryOrder asks by chance, with a disk that refuses, crashes, and sectors that others write, and holds all answers against the model's.
func TestP6_1EveryOrder(t *testing.T) {
	found := 0
	for seed := range int64(120) {
		random := rand.New(rand.NewSource(seed))
		d := platter.New([]int{1, 5, 12, 40}[seed%4])
		m := &model{stands: all(t, d)}
		j, _ := chanceOpen(t, random, d, m)
		for range 250 {
			switch random.Intn(24) {
			case 0, 1, 2:
				many := 0
				j, many = chanceOpen(t, random, d, m)
				found += many
			case 3:
				j.Restart()
				m.at, m.ahead = m.from, m.seq
			case 4:
				m.refuses = random.Intn(12)
				d.Arm(m.refuses)
			case 5:
				d.Crash(random.Uint64(), random.Intn(4)-1, random.Intn(140)-6)
				m.stands, m.refuses = all(t, d), 0
			case 6:
				meddle(t, random, d, m)
			default:
				chanceAdd(t, random, j, m)
			}
			size := []int{-1, 0, 92, 93, random.Intn(800), 1 << 15}[random.Intn(6)]
			if j.Room(size) != m.room(size) {
				t.Fatalf("Room(%d): %v", size, !m.room(size))
			}
			is(t, j, m.seq, m.at, m.sick)
			stands(t, d, m.stands)
		}
	}
	// Else the model and the program might agree upon nothing.
	if found < 4000 {
		t.Errorf("just %d records were there", found)
	}
}

// meddle writes a sector that isn't the journal's doing: a turned bit, another one's bytes, a record.
func meddle(t *testing.T, random *rand.Rand, d *platter.Disk, m *model) {
	t.Helper()
	i := random.Intn(len(m.stands))
	b := []byte(m.stands[i])
	switch random.Intn(3) {
	case 0:
		b[random.Intn(128)] ^= 1 << random.Intn(8)
	case 1:
		b = []byte(m.stands[random.Intn(len(m.stands))])
	default:
		data := headed(m.seq+random.Intn(3), random.Intn(3), text(random.Intn(3)))
		b = []byte(leafOf(1+random.Intn(1000), random.Intn(2), data))
	}
	// A write of the disk's own that is refused is none of the journal's.
	d.Arm(0)
	m.refuses = 0
	m.stands[i] = string(b)
	put(t, d, i, m.stands[i])
}

// TestP6_2AddedIsThere adds records of all lengths, and opens it again behind each, and behind a crash.
func TestP6_2AddedIsThere(t *testing.T) {
	const sectors = 400
	for _, seq := range []int{0, 5, 1 << 40, most - 1000} {
		d := platter.New(sectors)
		j := opened(t, d, 2, sectors, seq)
		var list []string
		for i := 0; ; i++ {
			s := text(i * 29 % 331)
			if !j.Room(len(s)) {
				break
			}
			added(t, d, j, i+1, s)
			list = append(list, s)
			opened(t, d, 2, sectors, seq, list...)
			if i%3 == 0 {
				d.Crash(0, 0, 0)
				j = opened(t, d, 2, sectors, seq, list...)
			}
			// Opened behind some of them at their place, those behind these are there.
			opened(t, d, j.At()-takes(len(s)), sectors, seq+i, s)
		}
		if len(list) < 150 {
			t.Fatalf("just %d records", len(list))
		}
	}
}

// TestP6_2EachLength adds a record of each length that has room, and opens it again.
func TestP6_2EachLength(t *testing.T) {
	for n := range 6*104 - 12 + 1 {
		d := platter.New(8)
		j := opened(t, d, 1, 7, 3)
		added(t, d, j, n+1, text(n))
		d.Crash(0, -1, 0)
		opened(t, d, 1, 7, 3, text(n))
		s := strings.Repeat("\x00", n)
		j.Restart()
		added(t, d, j, 1000+n, s)
		opened(t, d, 1, 7, 4, s)
	}
}

// ground is what lies where a record is added: two records ahead of it, and things that lay there before.
type ground struct {
	ahead []string
	under []string // records that were there ahead of a Restart
}

func grounds() []ground {
	return []ground{
		{},
		{ahead: []string{"one", text(130)}},
		{under: []string{text(150), "x", text(600)}},
		{ahead: []string{text(92)}, under: []string{"", "", "", "", "", "", "", ""}},
		{ahead: []string{"", text(93)}, under: []string{text(10 * 104)}},
		{ahead: []string{text(200)}, under: []string{text(200), text(200), text(200), text(200)}},
	}
}

// groundOf answers a disk that has it, the journal's seq behind which to open it, and the journal.
func groundOf(t *testing.T, g ground) (*platter.Disk, int, *journal.Journal) {
	t.Helper()
	d := platter.New(16)
	j := opened(t, d, 2, 15, 0)
	number := 0
	add := func(list []string) {
		for _, s := range list {
			number++
			added(t, d, j, number, s)
		}
	}
	add(g.under)
	j.Restart()
	add(g.ahead)
	return d, len(g.under), j
}

// persists answers whether all sectors of a record do, at a crash of so many writes.
func persists(t *testing.T, d *platter.Disk, at int, parts []string) bool {
	t.Helper()
	return slices.Equal(all(t, d)[at:at+len(parts)], parts)
}

// TestP6_2Crashes crashes ahead of the sync, and ahead of each write, with each set of the sectors that were written, and each of them torn at each place.
func TestP6_2Crashes(t *testing.T) {
	for _, g := range grounds() {
		for _, n := range []int{0, 92, 93, 196, 197, 300} {
			s := text(n)
			for op := 1; op <= takes(n)+1; op++ {
				// Where the last sectors weren't written the others can't make it whole, wherever they tear.
				step := 11
				if op == takes(n)+1 {
					step = 1
				}
				for mask := range uint64(1 << (op - 1)) {
					crash(t, g, s, op, mask, -1, 0)
					for torn := range op - 1 {
						if mask>>torn&1 == 1 {
							// How much of a torn one persists is told by the cut alone.
							continue
						}
						for cut := 0; cut <= 128; cut += step {
							crash(t, g, s, op, mask, torn, cut)
						}
					}
				}
			}
		}
	}
}

// crash adds a record at one of whose operations the disk refuses, crashes, and holds what is opened again to what must be there; it goes on from there.
func crash(t *testing.T, g ground, s string, op int, mask uint64, torn, cut int) {
	t.Helper()
	d, seq, j := groundOf(t, g)
	at, parts := j.At(), partsOf(100, recordOf(j.Seq()+1, s))
	refused(t, d, j, op, 100, s)
	d.Crash(mask, torn, cut)
	want := slices.Clone(g.ahead)
	if persists(t, d, at, parts) {
		want = append(want, s)
	} else if op == takes(len(s))+1 && mask == 1<<(op-1)-1 && torn < 0 {
		t.Fatal("all was written, and isn't there")
	}
	j = opened(t, d, 2, 15, seq, want...)
	for i, more := range []string{"more", text(104)} {
		added(t, d, j, 101+i, more)
		want = append(want, more)
		d.Crash(math.MaxUint64, 0, 64)
		opened(t, d, 2, 15, seq, want...)
	}
}

// TestP6_2CrashesAgainAndAgain adds, crashes by chance, opens again, and restarts: what is there is what was added, and perhaps the one behind it.
func TestP6_2CrashesAgainAndAgain(t *testing.T) {
	whole, none := 0, 0
	for seed := range int64(60) {
		random := rand.New(rand.NewSource(seed))
		d := platter.New(24)
		j := opened(t, d, 2, 23, 0)
		var list []string // since the last Restart
		seq, number := 0, 0
		for range 200 {
			b := make([]byte, random.Intn(500))
			random.Read(b)
			s := string(b)
			number++
			if !j.Room(len(s)) || random.Intn(15) == 0 {
				j.Restart()
				seq, list = seq+len(list), nil
			}
			if random.Intn(3) > 0 {
				added(t, d, j, number, s)
				list = append(list, s)
				continue
			}
			at, parts := j.At(), partsOf(number, recordOf(j.Seq()+1, s))
			refused(t, d, j, 1+random.Intn(takes(len(s))+1), number, s)
			mask := random.Uint64() | random.Uint64()
			d.Crash(mask, random.Intn(takes(len(s))+2)-1, random.Intn(140)-6)
			if persists(t, d, at, parts) {
				list = append(list, s)
				whole++
			} else {
				none++
			}
			j = opened(t, d, 2, 23, seq, list...)
		}
	}
	// Else one of both might never be seen.
	if whole < 50 || none < 50 {
		t.Errorf("%d were there whole, %d not at all", whole, none)
	}
}

// TestP6_3Restart: opened behind as many records as were ahead of it, none of them is there.
func TestP6_3Restart(t *testing.T) {
	d := platter.New(10)
	j := opened(t, d, 1, 9, 0)
	list := []string{"one", text(130), "", "four"}
	for i, s := range list {
		added(t, d, j, i+1, s)
	}
	ops, want := d.Ops(), all(t, d)
	for range 2 {
		j.Restart()
		is(t, j, 4, 1, false)
		room(t, j, 8)
	}
	if d.Ops() != ops {
		t.Fatal("Restart wrote something")
	}
	stands(t, d, want)
	opened(t, d, 1, 9, 4)
	// They lie there till something lies upon them, for somebody who keeps fewer elsewhere.
	opened(t, d, 1, 9, 0, list...)
	added(t, d, j, 5, "five")
	is(t, j, 5, 2, false)
	opened(t, d, 1, 9, 4, "five")
	opened(t, d, 1, 9, 5)
	opened(t, d, 1, 9, 0)
}

// TestP6_3RestartOfNone: of a journal without records, and of one that was just opened with some.
func TestP6_3RestartOfNone(t *testing.T) {
	d := platter.New(6)
	j := opened(t, d, 2, 6, 7)
	j.Restart()
	is(t, j, 7, 2, false)
	added(t, d, j, 1, "eight")
	j = opened(t, d, 2, 6, 7, "eight")
	j.Restart()
	is(t, j, 8, 2, false)
	opened(t, d, 2, 6, 8)
	added(t, d, j, 2, "nine")
	opened(t, d, 2, 6, 8, "nine")
}

// TestP6_3FewerAndMore adds, behind a Restart, records that take fewer and more sectors than those that lay there, and opens it again behind each.
func TestP6_3FewerAndMore(t *testing.T) {
	sets := [][]string{
		{}, {""}, {"", "", "", "", "", "", "", "", "", ""}, {text(1000)}, {text(500), text(380)}, {text(92), text(93), text(196), text(197)}, {"x", text(700), "x"}, {text(250), "y", text(250), "y"},
	}
	for _, first := range sets {
		for _, then := range sets {
			for _, last := range sets {
				d := platter.New(12)
				j := opened(t, d, 1, 12, 0)
				ahead, number := 0, 0
				for _, set := range [][]string{first, then, last} {
					for i, s := range set {
						number++
						added(t, d, j, number, s)
						opened(t, d, 1, 12, ahead, set[:i+1]...)
						for behind := range i + 1 {
							// Behind others than those of the Restart nothing is at the first place.
							opened(t, d, 1, 12, ahead+1+behind)
						}
					}
					ahead += len(set)
					j.Restart()
					is(t, j, ahead, 1, false)
					opened(t, d, 1, 12, ahead)
					d.Crash(math.MaxUint64, -1, 0)
					opened(t, d, 1, 12, ahead)
				}
			}
		}
	}
}

// TestP6_3Crashes: of the first record behind a Restart, with each set of its sectors, torn at each place, and a Restart again.
func TestP6_3Crashes(t *testing.T) {
	for _, under := range [][]string{{"one", "two", "three"}, {text(600)}, {text(130), text(130), text(130)}} {
		s := text(250)
		for mask := range uint64(1 << 3) {
			for torn := -1; torn < 3; torn++ {
				for _, cut := range []int{0, 1, 8, 12, 20, 24, 64, 116, 120, 121, 127, 128} {
					d := platter.New(10)
					j := opened(t, d, 1, 10, 0)
					for i, u := range under {
						added(t, d, j, i+1, u)
					}
					j.Restart()
					refused(t, d, j, 4, 9, s)
					d.Crash(mask, torn, cut)
					var want []string
					if persists(t, d, 1, partsOf(9, recordOf(len(under)+1, s))) {
						want = []string{s}
					}
					j = opened(t, d, 1, 10, len(under), want...)
					j.Restart()
					opened(t, d, 1, 10, len(under)+len(want))
					added(t, d, j, 10, "more")
					opened(t, d, 1, 10, len(under)+len(want), "more")
				}
			}
		}
	}
}

// TestP6_3AgainAndAgain restarts whenever there is no room: opened behind all that were ahead, just those since are there.
func TestP6_3AgainAndAgain(t *testing.T) {
	for seed := range int64(30) {
		random := rand.New(rand.NewSource(seed))
		d := platter.New(20)
		ahead := random.Intn(1000)
		j := opened(t, d, 1, 20, ahead)
		var list []string
		for number := 1; number <= 300; number++ {
			s := text(random.Intn(1 + random.Intn(1500)))
			if !j.Room(len(s)) {
				j.Restart()
				ahead, list = ahead+len(list), nil
				opened(t, d, 1, 20, ahead)
			}
			added(t, d, j, number, s)
			list = append(list, s)
			opened(t, d, 1, 20, ahead, list...)
			for more := 1; more <= 3; more++ {
				opened(t, d, 1, 20, ahead+more)
			}
		}
	}
}
