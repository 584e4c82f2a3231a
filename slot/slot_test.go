package slot_test

import (
	"encoding/binary"
	"hash/crc32"
	"math"
	"math/rand"
	"slices"
	"strings"
	"testing"

	"bondstore/api"
	"bondstore/platter"
	"bondstore/slot"
	"bondstore/stamp"
)

// most is the greatest number of a sector.
const most = 1 << 60

var castagnoli = crc32.MakeTable(crc32.Castagnoli)

// little answers a number's lowest bytes, the lowest first.
func little(size, n int) string {
	return string(binary.LittleEndian.AppendUint64(nil, uint64(n))[:size])
}

// leafOf answers a sector with up to 104 bytes, by layer 5's words.
func leafOf(number, index int, data string) string {
	s := little(8, number) + little(2, index) + little(2, len(data)) + data + strings.Repeat("\x00", 104-len(data))
	return s + little(4, int(crc32.Checksum([]byte(s), castagnoli))) + little(8, number)
}

// partsOf answers the sectors in which bytes lie.
func partsOf(number int, s string) []string {
	list := []string{leafOf(number, 0, s[:min(104, len(s))])}
	for i := 104; i < len(s); i += 104 {
		list = append(list, leafOf(number, i/104, s[i:min(i+104, len(s))]))
	}
	return list
}

// takes answers how many sectors n bytes do.
func takes(n int) int { return max(1, (n+103)/104) }

// text answers so many bytes, no two of them in a row alike, and none of them 0.
func text(n int) string {
	b := make([]byte, n)
	for i := range b {
		b[i] = byte(1 + (i*13+i/104)%255)
	}
	return string(b)
}

// randomText answers so many bytes by chance.
func randomText(random *rand.Rand, n int) string {
	b := make([]byte, n)
	random.Read(b)
	return string(b)
}

// planOf answers the plan of so many sectors, which there must be.
func planOf(t *testing.T, sectors int) slot.Plan {
	t.Helper()
	p, err := slot.Of(sectors)
	if err != api.OK {
		t.Fatalf("Of(%d): %d", sectors, err)
	}
	return p
}

// begins answers where a slot must begin: the heads take two sectors.
func begins(p slot.Plan, which int) int {
	if which&1 == 1 {
		return 2 + p.Size
	}
	return 2
}

// put writes a sector as it is, and lasts makes all writes last.
func put(t *testing.T, d *platter.Disk, i int, s string) {
	t.Helper()
	if err := d.Write(i, s); err != api.OK {
		t.Fatalf("Write(%d): %d", i, err)
	}
}

func lasts(t *testing.T, d *platter.Disk) {
	t.Helper()
	if err := d.Sync(); err != api.OK {
		t.Fatalf("Sync: %d", err)
	}
}

// all answers what stands in all sectors of a disk, and stands holds it to what must.
func all(t *testing.T, d *platter.Disk) []string {
	t.Helper()
	var list []string
	for i := range d.Sectors() {
		s, err := d.Read(i)
		if err != api.OK {
			t.Fatalf("Read(%d): %d", i, err)
		}
		list = append(list, s)
	}
	return list
}

func stands(t *testing.T, d *platter.Disk, want []string) {
	t.Helper()
	for i, s := range all(t, d) {
		if s != want[i] {
			t.Fatalf("sector %d: %q, not %q", i, s, want[i])
		}
	}
}

// filled answers a disk of sectors that are nothing's, no two of them alike, and last.
func filled(t *testing.T, n int) *platter.Disk {
	t.Helper()
	d := platter.New(n)
	for i := range n {
		put(t, d, i, strings.Repeat("\xee", 64)+strings.Repeat(string([]byte{byte(i), byte(i >> 8), 0xff, 0xff}), 16))
	}
	lasts(t, d)
	return d
}

// kept puts something that must be put, and holds the disk to having written as many sectors as it takes, and synced them.
func kept(t *testing.T, p slot.Plan, d *platter.Disk, which, number int, s string) {
	t.Helper()
	ops := d.Ops()
	if err := p.Put(d, which, number, s); err != api.OK {
		t.Fatalf("Put(%d, %d) of %d bytes: %d", which, number, len(s), err)
	}
	if d.Later() != 0 || d.Ops() != ops+takes(len(s))+1 {
		t.Fatalf("Put of %d bytes: %d operations, %d writes wait", len(s), d.Ops()-ops, d.Later())
	}
}

// notKept puts something that must not be put, and holds the disk to not having been asked.
func notKept(t *testing.T, p slot.Plan, d *platter.Disk, which, number int, s string, want api.Errno) {
	t.Helper()
	ops, later := d.Ops(), d.Later()
	if err := p.Put(d, which, number, s); err != want {
		t.Fatalf("Put(%d, %d) of %d bytes: %d, not %d", which, number, len(s), err, want)
	}
	if d.Ops() != ops || d.Later() != later {
		t.Fatal("something was written, or synced")
	}
}

// refused puts something at one of whose operations the disk refuses.
func refused(t *testing.T, p slot.Plan, d *platter.Disk, op, which, number int, s string) {
	t.Helper()
	ops, later := d.Ops(), d.Later()
	d.Arm(op)
	if err := p.Put(d, which, number, s); err != api.ErrDisk {
		t.Fatalf("Put, operation %d refused: %d", op, err)
	}
	if d.Ops() != ops+op || d.Later() != later+op-1 {
		t.Fatalf("operation %d was refused, %d were tried, and %d writes wait", op, d.Ops()-ops, d.Later()-later)
	}
}

// there holds what is got to a text, and gone to nothing.
func there(t *testing.T, p slot.Plan, d *platter.Disk, which, number int, want string) {
	t.Helper()
	if s, ok := p.Get(d, which, number, len(want)); !ok || s != want {
		t.Fatalf("Get(%d, %d, %d): %q, %v", which, number, len(want), s, ok)
	}
}

func gone(t *testing.T, p slot.Plan, d *platter.Disk, which, number, size int) {
	t.Helper()
	if s, ok := p.Get(d, which, number, size); ok || s != "" {
		t.Fatalf("Get(%d, %d, %d): %q, %v", which, number, size, s, ok)
	}
}

func TestP7_1Least(t *testing.T) {
	if slot.Least != 12 {
		t.Errorf("Least is %d", slot.Least)
	}
}

// TestP7_1Example is the chapter's.
func TestP7_1Example(t *testing.T) {
	p, err := slot.Of(12)
	if err != api.OK || p.First != 2 || p.Second != 6 || p.Size != 4 || p.Journal != 10 || p.End != 12 {
		t.Errorf("%+v, %d", p, err)
	}
}

// TestP7_1OfByHand holds plans to numbers that are written out.
func TestP7_1OfByHand(t *testing.T) {
	for sectors, want := range map[int]slot.Plan{
		12:   {First: 2, Second: 6, Size: 4, Journal: 10, End: 12},
		13:   {First: 2, Second: 6, Size: 4, Journal: 10, End: 13},
		14:   {First: 2, Second: 6, Size: 4, Journal: 10, End: 14},
		15:   {First: 2, Second: 7, Size: 5, Journal: 12, End: 15},
		16:   {First: 2, Second: 7, Size: 5, Journal: 12, End: 16},
		17:   {First: 2, Second: 8, Size: 6, Journal: 14, End: 17},
		18:   {First: 2, Second: 8, Size: 6, Journal: 14, End: 18},
		19:   {First: 2, Second: 8, Size: 6, Journal: 14, End: 19},
		20:   {First: 2, Second: 9, Size: 7, Journal: 16, End: 20},
		21:   {First: 2, Second: 9, Size: 7, Journal: 16, End: 21},
		22:   {First: 2, Second: 10, Size: 8, Journal: 18, End: 22},
		600:  {First: 2, Second: 241, Size: 239, Journal: 480, End: 600},
		4095: {First: 2, Second: 1639, Size: 1637, Journal: 3276, End: 4095},
		4096: {First: 2, Second: 1639, Size: 1637, Journal: 3276, End: 4096},
	} {
		if p := planOf(t, sectors); p != want {
			t.Errorf("Of(%d): %+v, not %+v", sectors, p, want)
		}
	}
}

// TestP7_1OfAll: of each number of sectors all of them are parted, and a slot has as many as two fifths hold.
func TestP7_1OfAll(t *testing.T) {
	for sectors := 12; sectors <= 4096; sectors++ {
		p := planOf(t, sectors)
		if p.First != 2 || p.Second != 2+p.Size || p.Journal != 2+2*p.Size || p.End != sectors {
			t.Fatalf("Of(%d): %+v", sectors, p)
		}
		if others := sectors - 2; 5*p.Size > 2*others || 5*(p.Size+1) <= 2*others {
			t.Fatalf("Of(%d): slots of %d", sectors, p.Size)
		}
	}
}

func TestP7_1OfNone(t *testing.T) {
	wrong := []int{math.MinInt, math.MinInt + 1, -4096, -12, -2, -1, 4097, 4098, 1 << 13, 1 << 32, 1<<32 + 12, 1<<32 + 600, 1 << 62, math.MaxInt - 1, math.MaxInt}
	for sectors := range 12 {
		wrong = append(wrong, sectors)
	}
	for _, sectors := range wrong {
		if p, err := slot.Of(sectors); p != (slot.Plan{}) || err != api.ErrArg {
			t.Errorf("Of(%d): %+v, %d", sectors, p, err)
		}
	}
}

func TestP7_1At(t *testing.T) {
	for _, sectors := range []int{12, 13, 15, 600, 4096} {
		p := planOf(t, sectors)
		for _, even := range []int{0, 2, 4, 100, -2, -4, -100, 1 << 32, 1 << 60, math.MaxInt - 1, math.MinInt, math.MinInt + 2} {
			if at := p.At(even); at != 2 || at != p.First {
				t.Errorf("At(%d) of %d sectors: %d", even, sectors, at)
			}
		}
		for _, odd := range []int{1, 3, 5, 101, -1, -3, -101, 1<<32 + 1, 1<<60 + 1, math.MaxInt, math.MaxInt - 2, math.MinInt + 1} {
			if at := p.At(odd); at != 2+p.Size || at != p.Second {
				t.Errorf("At(%d) of %d sectors: %d", odd, sectors, at)
			}
		}
		for which := -300; which <= 300; which++ {
			if at := p.At(which); at != begins(p, which) {
				t.Errorf("At(%d) of %d sectors: %d", which, sectors, at)
			}
		}
	}
}

func TestP7_1Fits(t *testing.T) {
	for sectors := 12; sectors <= 4096; sectors++ {
		p := planOf(t, sectors)
		fits := 104 * p.Size
		for _, n := range []int{math.MinInt, -1 << 32, -105, -104, -1, 0, 1, 104, 105, fits - 104, fits - 1, fits, fits + 1, fits + 104, 2 * fits, 1 << 32, 1<<32 + 1, math.MaxInt - 1, math.MaxInt} {
			if want := n >= 0 && n <= fits; p.Fits(n) != want {
				t.Fatalf("Fits(%d) of %d sectors: %v", n, sectors, !want)
			}
		}
	}
	for _, sectors := range []int{12, 15, 27} {
		p := planOf(t, sectors)
		for n := -300; n < 3000; n++ {
			if want := n >= 0 && takes(n) <= p.Size; p.Fits(n) != want {
				t.Fatalf("Fits(%d) of %d sectors: %v", n, sectors, !want)
			}
		}
	}
}

// TestP7_1PutByHand holds a slot's sectors to bytes that are written out.
func TestP7_1PutByHand(t *testing.T) {
	p, d := planOf(t, 12), platter.New(12)
	kept(t, p, d, 1, 0x0102030405060708, "hello")
	number := "\x08\x07\x06\x05\x04\x03\x02\x01"
	ahead := number + "\x00\x00" + "\x05\x00" + "hello" + strings.Repeat("\x00", 99)
	sum := crc32.Checksum([]byte(ahead), castagnoli)
	want := slices.Repeat([]string{strings.Repeat("\x00", 128)}, 12)
	want[6] = ahead + string([]byte{byte(sum), byte(sum >> 8), byte(sum >> 16), byte(sum >> 24)}) + number
	stands(t, d, want)
}

// TestP7_1PutSectors holds each sector of what is put, at lengths at which one more is taken, to the chapter's words; all others stay.
func TestP7_1PutSectors(t *testing.T) {
	for _, sectors := range []int{12, 13, 14, 15, 16, 27} {
		p := planOf(t, sectors)
		full := 104 * p.Size
		for i, which := range []int{0, 1, 2, 3, -1, -2, math.MinInt, math.MaxInt, 1 << 60} {
			for _, n := range []int{0, 1, 103, 104, 105, 208, 209, full - 104, full - 103, full - 1, full} {
				d := filled(t, sectors)
				number := []int{1, 2, 255, 256, 0x0102030405060708, most - 1, most}[i%7]
				want := all(t, d)
				copy(want[begins(p, which):], partsOf(number, text(n)))
				kept(t, p, d, which, number, text(n))
				stands(t, d, want)
				there(t, p, d, which, number, text(n))
				gone(t, p, d, which^1, number, n)
				d.Crash(0, 0, 0)
				stands(t, d, want)
			}
		}
	}
}

// TestP7_1PutOnAWholeDisk uses each sector of the slots of the greatest disk.
func TestP7_1PutOnAWholeDisk(t *testing.T) {
	p, d := planOf(t, 4096), filled(t, 4096)
	want := all(t, d)
	first, second := text(1637*104), strings.Repeat("s", 1637*104)
	for which, s := range []string{first, second} {
		notKept(t, p, d, which, 5+which, s+"x", api.ErrLong)
		kept(t, p, d, which, 5+which, s)
		copy(want[2+1637*which:], partsOf(5+which, s))
	}
	stands(t, d, want)
	there(t, p, d, 0, 5, first)
	there(t, p, d, 1, 6, second)
	gone(t, p, d, 0, 5, 1637*104+1)
}

// TestP7_1PutOnNoDisk: that is told ahead of all else.
func TestP7_1PutOnNoDisk(t *testing.T) {
	p := planOf(t, 12)
	for _, which := range []int{0, 1, -1, math.MinInt, math.MaxInt} {
		for _, number := range []int{1, most, 0, -1, most + 1} {
			for _, n := range []int{0, 1, 416, 417, 1 << 16} {
				if err := p.Put(nil, which, number, text(n)); err != api.ErrNil {
					t.Errorf("Put(nil, %d, %d) of %d bytes: %d", which, number, n, err)
				}
				gone(t, p, nil, which, number, n)
				gone(t, p, nil, which, number, -n)
			}
		}
	}
}

func TestP7_1PutNumbers(t *testing.T) {
	p, d := planOf(t, 12), filled(t, 12)
	want := all(t, d)
	put(t, d, 11, "it waits")
	want[11] = "it waits" + strings.Repeat("\x00", 120)
	for _, number := range []int{0, -1, -2, math.MinInt, math.MinInt + 1, -most, most + 1, most + 2, 1 << 61, 1 << 62, math.MaxInt} {
		for which := range 2 {
			// Bytes that are too many are told behind that.
			for _, n := range []int{0, 1, 104, 416, 417, 1 << 16} {
				notKept(t, p, d, which, number, text(n), api.ErrArg)
			}
		}
	}
	stands(t, d, want)
	for _, number := range []int{1, 2, 256, 1 << 32, most - 1, most} {
		for which := range 2 {
			kept(t, p, d, which, number, text(300))
			there(t, p, d, which, number, text(300))
		}
	}
}

func TestP7_1PutOfTooLong(t *testing.T) {
	for _, sectors := range []int{12, 13, 15, 27, 600} {
		p, d := planOf(t, sectors), filled(t, sectors)
		for which := range 2 {
			kept(t, p, d, which, 5+which, text(p.Size*104))
		}
		want := all(t, d)
		put(t, d, sectors-1, "it waits")
		want[sectors-1] = "it waits" + strings.Repeat("\x00", 120)
		for which := -2; which < 4; which++ {
			for _, more := range []int{1, 103, 104, 105, 1 << 16} {
				notKept(t, p, d, which, 7, text(p.Size*104+more), api.ErrLong)
			}
		}
		stands(t, d, want)
	}
}

// TestP7_1PutOnADiskOfOtherSectors: a slot's sectors that the disk hasn't are none; of those behind them nothing is asked.
func TestP7_1PutOnADiskOfOtherSectors(t *testing.T) {
	p := planOf(t, 27)
	for sectors := range 40 {
		for which := range 2 {
			d := filled(t, sectors)
			want := all(t, d)
			if end := begins(p, which) + 10; sectors < end {
				notKept(t, p, d, which, 5, "x", api.ErrArg)
				notKept(t, p, d, which, 5, text(1041), api.ErrArg)
				if begins(p, which) < sectors {
					put(t, d, begins(p, which), leafOf(5, 0, "x"))
				}
				gone(t, p, d, which, 5, 1)
				continue
			}
			kept(t, p, d, which, 5, text(1040))
			copy(want[begins(p, which):], partsOf(5, text(1040)))
			stands(t, d, want)
			there(t, p, d, which, 5, text(1040))
		}
	}
}

// TestP7_1DiskRefuses: at each write, and at the sync, with what was written ahead of that, none of which need last.
func TestP7_1DiskRefuses(t *testing.T) {
	p := planOf(t, 15)
	for which := range 2 {
		for _, n := range []int{0, 1, 104, 105, 208, 209, 416, 417, 520} {
			s := text(n)
			for op := 1; op <= takes(n)+1; op++ {
				d := filled(t, 15)
				kept(t, p, d, which, 3, "ahead")
				want, ahead := all(t, d), all(t, d)
				refused(t, p, d, op, which, 4, s)
				copy(want[begins(p, which):], partsOf(4, s)[:op-1])
				stands(t, d, want)
				d.Crash(0, -1, 0)
				stands(t, d, ahead)
				there(t, p, d, which, 3, "ahead")
				kept(t, p, d, which, 5, s)
				there(t, p, d, which, 5, s)
			}
		}
	}
}

// TestP7_1DiskRefusesLater: what isn't reached isn't refused, and what can't be put is no operation.
func TestP7_1DiskRefusesLater(t *testing.T) {
	p, d := planOf(t, 12), platter.New(12)
	d.Arm(5)
	notKept(t, p, d, 0, 0, "x", api.ErrArg)
	notKept(t, p, d, 0, 5, text(417), api.ErrLong)
	kept(t, p, d, 0, 5, text(300))
	refused(t, p, d, 1, 1, 6, "x")
	kept(t, p, d, 1, 6, "x")
	there(t, p, d, 0, 5, text(300))
	there(t, p, d, 1, 6, "x")
}

// TestP7_1PutSyncsAll: what waited ahead of it lasts too; where it is refused nothing that waits does.
func TestP7_1PutSyncsAll(t *testing.T) {
	p, d := planOf(t, 12), platter.New(12)
	put(t, d, 0, "a head")
	put(t, d, 11, "a record")
	refused(t, p, d, 2, 0, 5, "x")
	if d.Later() != 3 {
		t.Fatalf("%d writes wait", d.Later())
	}
	kept(t, p, d, 1, 6, "y")
	want := slices.Repeat([]string{strings.Repeat("\x00", 128)}, 12)
	want[0], want[11] = "a head"+strings.Repeat("\x00", 122), "a record"+strings.Repeat("\x00", 120)
	want[2], want[6] = leafOf(5, 0, "x"), leafOf(6, 0, "y")
	d.Crash(0, -1, 0)
	stands(t, d, want)
}

// TestP7_1GetOfOthers: of another number, size or slot there is nothing.
func TestP7_1GetOfOthers(t *testing.T) {
	p := planOf(t, 15)
	for which := range 2 {
		for _, n := range []int{0, 1, 50, 103, 104, 105, 208, 209, 519, 520} {
			d := filled(t, 15)
			kept(t, p, d, which, 9, text(n))
			kept(t, p, d, which^1, 10, text(n))
			for _, number := range []int{8, 10, 0, -9, 9 + 256, 9 + 1<<56, most, 1, math.MinInt, math.MaxInt} {
				gone(t, p, d, which, number, n)
			}
			gone(t, p, d, which^1, 9, n)
			for size := -210; size <= 6*104+1; size++ {
				// Full sectors are there too, whatever is behind them, as layer 5's Take says.
				if size == n || size > 0 && size < n && size%104 == 0 {
					there(t, p, d, which, 9, text(n)[:size])
				} else {
					gone(t, p, d, which, 9, size)
				}
			}
			for _, size := range []int{math.MinInt, math.MinInt + 1, math.MaxInt, math.MaxInt - 1, n + 1<<32, n - 1<<32} {
				gone(t, p, d, which, 9, size)
			}
			for _, same := range []int{which + 2, which - 2, which + 1<<60, which + math.MinInt} {
				there(t, p, d, same, 9, text(n))
			}
		}
	}
}

// TestP7_1GetOfBlank: nothing was put yet.
func TestP7_1GetOfBlank(t *testing.T) {
	for _, sectors := range []int{12, 27, 4096} {
		p := planOf(t, sectors)
		for _, d := range []*platter.Disk{platter.New(sectors), filled(t, sectors)} {
			for which := range 2 {
				for _, number := range []int{0, 1, most} {
					for _, size := range []int{-1, 0, 1, 104, 105, p.Size * 104, p.Size*104 + 1} {
						gone(t, p, d, which, number, size)
					}
				}
			}
		}
	}
}

// TestP7_1GetOfSectorsThatArent: one sector of what was put is another one than it should be.
func TestP7_1GetOfSectorsThatArent(t *testing.T) {
	p, s := planOf(t, 12), text(3*104+20)
	for which := range 2 {
		for i, part := range partsOf(9, s) {
			data := s[i*104 : min(i*104+104, len(s))]
			for why, other := range map[string]string{
				"blank":                  "",
				"of another number":      leafOf(8, i, data),
				"of the next place":      leafOf(9, i+1, data),
				"one byte shorter":       leafOf(9, i, data[1:]),
				"without its last bytes": part[:120],
				"with a turned bit":      part[:40] + string([]byte{part[40] ^ 2}) + part[41:],
			} {
				d := platter.New(12)
				kept(t, p, d, which, 9, s)
				put(t, d, begins(p, which)+i, other)
				if got, ok := p.Get(d, which, 9, len(s)); ok || got != "" {
					t.Errorf("sector %d %s: %q", i, why, got)
				}
				put(t, d, begins(p, which)+i, part)
				there(t, p, d, which, 9, s)
			}
		}
	}
}

// TestP7_1GetBeyondTheSlot: what goes on behind a slot's end isn't there, though it is on the disk.
func TestP7_1GetBeyondTheSlot(t *testing.T) {
	p := planOf(t, 27)
	for which := range 2 {
		for _, n := range []int{1040, 1041, 1144} {
			d := platter.New(27)
			for i, part := range partsOf(9, text(n)) {
				put(t, d, begins(p, which)+i, part)
			}
			if n > 1040 {
				gone(t, p, d, which, 9, n)
			}
			there(t, p, d, which, 9, text(n)[:1040])
			// Nor is there what begins elsewhere.
			e := platter.New(27)
			for i, part := range partsOf(9, text(n)[:300]) {
				put(t, e, begins(p, which)+1+i, part)
			}
			gone(t, p, e, which, 9, 300)
		}
	}
}

// TestP7_1GetChangesNothing: nothing is written by it, nor by the calls that ask no disk.
func TestP7_1GetChangesNothing(t *testing.T) {
	p, d := planOf(t, 12), filled(t, 12)
	kept(t, p, d, 0, 1, text(300))
	put(t, d, 11, "it waits")
	d.Arm(1)
	ops, want := d.Ops(), all(t, d)
	for range 3 {
		there(t, p, d, 0, 1, text(300))
		gone(t, p, d, 1, 1, 300)
		if p.At(1) != 6 || !p.Fits(416) || p != planOf(t, 12) {
			t.Fatalf("%+v", p)
		}
	}
	if d.Ops() != ops || d.Later() != 1 {
		t.Error("something was written, or synced")
	}
	stands(t, d, want)
	if d.Sync() != api.ErrDisk {
		t.Error("it isn't refused any more")
	}
}

// TestP7_1DisksKnowNothingOfOneAnother: a plan keeps nothing, so that it does for all disks of so many sectors.
func TestP7_1DisksKnowNothingOfOneAnother(t *testing.T) {
	p := planOf(t, 12)
	d, e := platter.New(12), platter.New(12)
	kept(t, p, d, 0, 5, "of the one")
	gone(t, p, e, 0, 5, 10)
	kept(t, p, e, 0, 5, "of another")
	refused(t, p, e, 1, 1, 6, "x")
	kept(t, p, d, 1, 6, "x")
	there(t, p, d, 0, 5, "of the one")
	there(t, p, e, 0, 5, "of another")
	gone(t, p, e, 1, 6, 1)
}

// model is what the chapter says of a plan's calls, on sectors as they stand.
type model struct {
	stands  []string
	refuses int // which operation from now on the disk refuses; none of 0
}

func (m *model) at(which int) (from, size int) {
	for 5*(size+1) <= 2*(len(m.stands)-2) {
		size++
	}
	return 2 + (which&1)*size, size
}

func (m *model) put(which, number int, s string) api.Errno {
	from, size := m.at(which)
	parts := partsOf(max(1, number), s)
	switch {
	case number < 1 || number > most:
		return api.ErrArg
	case len(parts) > size:
		return api.ErrLong
	case m.refuses > 0 && m.refuses <= len(parts)+1:
		copy(m.stands[from:], parts[:m.refuses-1])
		m.refuses = 0
		return api.ErrDisk
	}
	if m.refuses > 0 {
		m.refuses -= len(parts) + 1
	}
	copy(m.stands[from:], parts)
	return api.OK
}

// get answers bytes, if the sectors are those that bytes of that number and size would be laid as: all but these is known.
func (m *model) get(which, number, size int) (string, bool) {
	from, room := m.at(which)
	if size < 0 || number < 1 || takes(size) > room {
		return "", false
	}
	s := ""
	for i := range takes(size) {
		s += m.stands[from+i][12 : 12+min(104, size-104*i)]
	}
	if !slices.Equal(partsOf(number, s), m.stands[from:from+takes(size)]) {
		return "", false
	}
	return s, true
}

// TestP7_1EveryOrder asks by chance, with a disk that refuses, crashes, and sectors that others write, and holds all answers against the model's.
func TestP7_1EveryOrder(t *testing.T) {
	found := 0
	for seed := range int64(60) {
		random := rand.New(rand.NewSource(seed))
		sectors := []int{12, 13, 14, 15, 20, 27}[seed%6]
		p, d := planOf(t, sectors), platter.New(sectors)
		m := &model{stands: all(t, d)}
		size := func() int {
			return []int{0, 1, 104, 105, 208, 209, 416, 417, 520, 521, random.Intn(800)}[random.Intn(11)]
		}
		number := func() int {
			if random.Intn(10) == 0 {
				return []int{0, -1, most, most + 1}[random.Intn(4)]
			}
			return 1 + random.Intn(3)
		}
		for range 200 {
			switch random.Intn(12) {
			case 0:
				m.refuses = random.Intn(8)
				d.Arm(m.refuses)
			case 1:
				d.Crash(random.Uint64(), random.Intn(5)-1, random.Intn(140)-6)
				m.stands, m.refuses = all(t, d), 0
			case 2:
				i, b := random.Intn(sectors), []byte(m.stands[random.Intn(sectors)])
				b[random.Intn(128)] ^= byte(random.Intn(2))
				m.stands[i], m.refuses = string(b), 0
				d.Arm(0)
				put(t, d, i, m.stands[i])
			default:
				which, n, s := random.Intn(6)-3, number(), text(size())
				if got, want := p.Put(d, which, n, s), m.put(which, n, s); got != want {
					t.Fatalf("Put(%d, %d) of %d bytes: %d, not %d", which, n, len(s), got, want)
				}
			}
			stands(t, d, m.stands)
			for range 20 {
				which, n, many := random.Intn(6)-3, number(), size()-random.Intn(2)
				got, ok := p.Get(d, which, n, many)
				want, wantOk := m.get(which, n, many)
				if got != want || ok != wantOk {
					t.Fatalf("Get(%d, %d, %d): %q, %v; not %q, %v", which, n, many, got, ok, want, wantOk)
				}
				if ok {
					found++
				}
			}
		}
	}
	// Else the model and the program might agree upon nothing.
	if found < 5000 {
		t.Errorf("just %d were there", found)
	}
}

// TestP7_2Lasts: of each length that fits, in both slots, behind a crash at which nothing, or all, persists.
func TestP7_2Lasts(t *testing.T) {
	p, d := planOf(t, 15), platter.New(15)
	number := 0
	for n := range 5*104 + 1 {
		for which := range 2 {
			number++
			kept(t, p, d, which, number, text(n))
			d.Crash(0, 0, n%129)
			there(t, p, d, which, number, text(n))
			d.Crash(math.MaxUint64, -1, 0)
			there(t, p, d, which, number, text(n))
			if number > 1 {
				// The one ahead of it lies in the other slot, and is as long, or one byte shorter.
				there(t, p, d, which^1, number-1, text(n+which-1))
			}
		}
	}
}

// TestP7_2Crashes crashes while something is put, ahead of each write and ahead of the sync, with each set of the sectors that were written, and each of them torn at each place: what is in the other slot is as it was, and what was being put is there whole, or not at all.
func TestP7_2Crashes(t *testing.T) {
	p := planOf(t, 12)
	for which := range 2 {
		for _, old := range []string{"", "old", text(4 * 104)} {
			for _, n := range []int{0, 104, 105, 4*104 - 5, 4 * 104} {
				for op := 1; op <= takes(n)+1; op++ {
					for mask := range uint64(1 << (op - 1)) {
						crash(t, p, which, old, text(n), op, mask, -1, 0)
						for torn := range op - 1 {
							if mask>>torn&1 == 1 {
								// How much of a torn one persists is told by the cut alone.
								continue
							}
							for cut := 0; cut <= 128; cut += 1 + 12*(takes(n)+1-op) {
								crash(t, p, which, old, text(n), op, mask, torn, cut)
							}
						}
					}
				}
			}
		}
	}
}

// crash puts old things into both slots, new ones into one of them till the disk refuses, and crashes; it goes on from there.
func crash(t *testing.T, p slot.Plan, which int, old, s string, op int, mask uint64, torn, cut int) {
	t.Helper()
	d := platter.New(12)
	put(t, d, 0, "a head")
	put(t, d, 11, "a record")
	kept(t, p, d, which, 0x0104, old)
	kept(t, p, d, which^1, 0x0105, "another "+old[:min(len(old), 400)])
	want := all(t, d)
	refused(t, p, d, op, which, 0x0206, s)
	d.Crash(mask, torn, cut)
	now, from := all(t, d), begins(p, which)
	copy(want[from:from+4], now[from:])
	stands(t, d, want)
	there(t, p, d, which^1, 0x0105, "another "+old[:min(len(old), 400)])
	switch {
	case slices.Equal(now[from:from+takes(len(s))], partsOf(0x0206, s)):
		there(t, p, d, which, 0x0206, s)
	case op == takes(len(s))+1 && mask == 1<<(op-1)-1 && torn < 0:
		t.Fatal("all was written, and isn't there")
	default:
		gone(t, p, d, which, 0x0206, len(s))
	}
	if op == 1 || mask == 0 && (torn < 0 || cut == 0) {
		// Nothing persisted.
		there(t, p, d, which, 0x0104, old)
	}
	kept(t, p, d, which, 0x0207, s)
	d.Crash(0, 0, 5)
	there(t, p, d, which, 0x0207, s)
	there(t, p, d, which^1, 0x0105, "another "+old[:min(len(old), 400)])
}

// TestP7_2OthersWrite: what is written beside the slots, synced or not, changes nothing of what was put.
func TestP7_2OthersWrite(t *testing.T) {
	for _, sectors := range []int{12, 14, 27} {
		p := planOf(t, sectors)
		first, second := text(p.Size*104), strings.Repeat("s", p.Size*104)
		random := rand.New(rand.NewSource(7))
		d := platter.New(sectors)
		kept(t, p, d, 0, 5, first)
		kept(t, p, d, 1, 6, second)
		for range 200 {
			for i := range sectors {
				if (i < 2 || i >= p.Journal) && random.Intn(2) == 0 {
					put(t, d, i, randomText(random, random.Intn(129)))
				}
			}
			if random.Intn(3) == 0 {
				lasts(t, d)
			}
			d.Crash(random.Uint64(), random.Intn(4)-1, random.Intn(140)-6)
			there(t, p, d, 0, 5, first)
			there(t, p, d, 1, 6, second)
		}
	}
}

// TestP7_2WhatCantBePut leaves what was put, whatever persists at a crash.
func TestP7_2WhatCantBePut(t *testing.T) {
	p := planOf(t, 12)
	for which := range 2 {
		for mask := range uint64(4) {
			d := platter.New(12)
			kept(t, p, d, which, 5, text(4*104))
			notKept(t, p, d, which, 6, text(4*104+1), api.ErrLong)
			notKept(t, p, d, which, 0, text(4*104), api.ErrArg)
			notKept(t, p, d, which, most+1, "", api.ErrArg)
			there(t, p, d, which, 5, text(4*104))
			d.Crash(mask, int(mask)-1, 64)
			there(t, p, d, which, 5, text(4*104))
		}
	}
}

// has is what was put into a slot, if that is known.
type has struct {
	number int
	s      string
	known  bool
}

// TestP7_2InTurn puts, most often in turn, by numbers that no sector bears, with crashes and a disk that refuses: what was put is there till something is put into the same slot.
func TestP7_2InTurn(t *testing.T) {
	asked, refusals := 0, 0
	for seed := range int64(80) {
		random := rand.New(rand.NewSource(seed))
		sectors := []int{12, 13, 15, 27}[seed%4]
		p, d := planOf(t, sectors), filled(t, sectors)
		var slots [2]has
		which := 0
		for range 120 {
			number := stamp.Greatest(d) + 1
			s := randomText(random, random.Intn(p.Size*104+1))
			which += 1 + random.Intn(5)/4
			switch at := &slots[which&1]; random.Intn(4) {
			case 0:
				refused(t, p, d, 1+random.Intn(takes(len(s))+1), which, number, s)
				d.Crash(random.Uint64()|random.Uint64(), random.Intn(takes(len(s))+2)-1, random.Intn(140)-6)
				got, ok := p.Get(d, which, number, len(s))
				if ok && got != s {
					t.Fatalf("of %d: %q is there", number, got)
				}
				*at = has{number, s, ok}
				refusals++
			default:
				kept(t, p, d, which, number, s)
				*at = has{number, s, true}
				d.Crash(random.Uint64(), random.Intn(3)-1, random.Intn(129))
			}
			for i, h := range slots {
				if h.known {
					there(t, p, d, which&^1+i, h.number, h.s)
					asked++
				}
			}
		}
	}
	if asked < 10000 || refusals < 1000 {
		t.Errorf("just %d were asked for, %d were refused", asked, refusals)
	}
}
