package crown_test

import (
	"encoding/binary"
	"hash/crc32"
	"math"
	"math/rand"
	"slices"
	"strings"
	"testing"

	"bondstore/api"
	"bondstore/crown"
	"bondstore/platter"
	"bondstore/stamp"
)

// most is the greatest turn, number and count of records, mostSize the greatest size, as the chapter says them.
const (
	most     = 1 << 60
	mostSize = 425984
)

var castagnoli = crc32.MakeTable(crc32.Castagnoli)

// little answers a number's lowest bytes, the lowest first.
func little(size, n int) string {
	return string(binary.LittleEndian.AppendUint64(nil, uint64(n))[:size])
}

// leafOf answers a sector with up to 104 bytes, by layer 5's words.
func leafOf(number, index int, data string) string {
	s := little(8, number) + little(2, index) + little(2, len(data)) + data + strings.Repeat("\x00", 104-len(data))
	return s + little(4, int(crc32.Checksum([]byte(s), castagnoli))) + little(8, number)
}

// numbersOf answers a head's bytes, whether it can be or not.
func numbersOf(h crown.Head) string {
	return little(8, h.Turn) + little(8, h.Number) + little(8, h.Size) + little(8, h.Seq)
}

// sectorOf answers the sector of a head that was put by a number.
func sectorOf(number int, h crown.Head) string { return leafOf(number, 0, numbersOf(h)) }

// canBe answers whether a head can, by the chapter's words.
func canBe(h crown.Head) bool {
	for _, n := range []int{h.Turn, h.Number, h.Seq} {
		if n < 0 || n > most {
			return false
		}
	}
	return h.Turn != 0 && h.Number != 0 && h.Size >= 0 && h.Size <= mostSize
}

// headOf answers a head of a turn that can be; those of turns near one another are unlike in all fields.
func headOf(turn int) crown.Head {
	return crown.Head{Turn: turn, Number: 10 + turn%1000003, Size: turn % 1009, Seq: turn % 777777 * 3}
}

// evenTurns and oddTurns can be, wrongTurns can't.
var (
	evenTurns  = []int{2, 4, 256, 1 << 31, 1 << 32, 1<<32 + 2, most - 2, most}
	oddTurns   = []int{1, 3, 255, 257, 1<<31 + 1, 1<<32 - 1, 1<<32 + 1, most - 1}
	wrongTurns = []int{0, -1, -2, math.MinInt, math.MinInt + 1, -most, most + 1, most + 2, 1 << 61, 1 << 62, math.MaxInt - 1, math.MaxInt}
)

// put writes a sector as it is, and lasts makes all writes last.
func put(t *testing.T, d *platter.Disk, i int, s string) {
	t.Helper()
	if err := d.Write(i, s); err != api.OK {
		t.Fatalf("Write(%d): %d", i, err)
	}
}

func lasts(t *testing.T, d *platter.Disk) {
	t.Helper()
	if err := d.Sync(); err != api.OK {
		t.Fatalf("Sync: %d", err)
	}
}

// all answers what stands in all sectors of a disk, and stands holds it to what must.
func all(t *testing.T, d *platter.Disk) []string {
	t.Helper()
	var list []string
	for i := range d.Sectors() {
		s, err := d.Read(i)
		if err != api.OK {
			t.Fatalf("Read(%d): %d", i, err)
		}
		list = append(list, s)
	}
	return list
}

func stands(t *testing.T, d *platter.Disk, want []string) {
	t.Helper()
	for i, s := range all(t, d) {
		if s != want[i] {
			t.Fatalf("sector %d: %q, not %q", i, s, want[i])
		}
	}
}

// filled answers a disk of sectors that are nothing's, no two of them alike, and last.
func filled(t *testing.T, n int) *platter.Disk {
	t.Helper()
	d := platter.New(n)
	for i := range n {
		put(t, d, i, strings.Repeat("\xee", 64)+strings.Repeat(string([]byte{byte(i), byte(i >> 8), 0xff, 0xff}), 16))
	}
	lasts(t, d)
	return d
}

// kept puts a head that must be put, and holds the disk to having written one sector, and synced it.
func kept(t *testing.T, d *platter.Disk, number int, h crown.Head) {
	t.Helper()
	ops := d.Ops()
	if err := crown.Put(d, number, h); err != api.OK {
		t.Fatalf("Put(%d, %+v): %d", number, h, err)
	}
	if d.Later() != 0 || d.Ops() != ops+2 {
		t.Fatalf("Put(%d, %+v): %d operations, %d writes wait", number, h, d.Ops()-ops, d.Later())
	}
}

// notKept puts a head that must not be put, and holds the disk to not having been asked.
func notKept(t *testing.T, d *platter.Disk, number int, h crown.Head) {
	t.Helper()
	ops, later := d.Ops(), d.Later()
	if err := crown.Put(d, number, h); err != api.ErrArg {
		t.Fatalf("Put(%d, %+v): %d", number, h, err)
	}
	if d.Ops() != ops || d.Later() != later {
		t.Fatalf("Put(%d, %+v): something was written, or synced", number, h)
	}
}

// refused puts a head at one of whose two operations the disk refuses.
func refused(t *testing.T, d *platter.Disk, op, number int, h crown.Head) {
	t.Helper()
	ops, later := d.Ops(), d.Later()
	d.Arm(op)
	if err := crown.Put(d, number, h); err != api.ErrDisk {
		t.Fatalf("Put, operation %d refused: %d", op, err)
	}
	if d.Ops() != ops+op || d.Later() != later+op-1 {
		t.Fatalf("operation %d was refused, %d were tried, and %d writes wait", op, d.Ops()-ops, d.Later()-later)
	}
}

// newest holds the newest head to one, and none to none.
func newest(t *testing.T, d *platter.Disk, want crown.Head) {
	t.Helper()
	if h, ok := crown.Newest(d); !ok || h != want {
		t.Fatalf("Newest: %+v, %v; not %+v", h, ok, want)
	}
}

func none(t *testing.T, d *platter.Disk) {
	t.Helper()
	if h, ok := crown.Newest(d); ok || h != (crown.Head{}) {
		t.Fatalf("Newest: %+v, %v", h, ok)
	}
}

// whole holds a head that can be to its bytes, both ways.
func whole(t *testing.T, h crown.Head) {
	t.Helper()
	if !crown.Good(h) {
		t.Errorf("Good(%+v): false", h)
	}
	s, err := crown.Bytes(h)
	if s != numbersOf(h) || len(s) != 32 || err != api.OK {
		t.Errorf("Bytes(%+v): %q, %d", h, s, err)
	}
	if again, ok := crown.Read(s); again != h || !ok {
		t.Errorf("Read of the bytes of %+v: %+v, %v", h, again, ok)
	}
}

// noHead holds one that can't be to having no bytes, both ways.
func noHead(t *testing.T, h crown.Head) {
	t.Helper()
	if crown.Good(h) {
		t.Errorf("Good(%+v): true", h)
	}
	if s, err := crown.Bytes(h); s != "" || err != api.ErrArg {
		t.Errorf("Bytes(%+v): %q, %d", h, s, err)
	}
	unread(t, numbersOf(h))
}

// unread holds bytes to being no head's.
func unread(t *testing.T, s string) {
	t.Helper()
	if h, ok := crown.Read(s); ok || h != (crown.Head{}) {
		t.Errorf("Read(%q): %+v, %v", s, h, ok)
	}
}

// TestP8_1Example is the chapter's.
func TestP8_1Example(t *testing.T) {
	d := platter.New(12)
	h := crown.Head{Turn: 3, Number: 7, Size: 300, Seq: 5}
	kept(t, d, 1, h)
	newest(t, d, h)
}

// TestP8_1BytesByHand holds a head's bytes to some that are written out.
func TestP8_1BytesByHand(t *testing.T) {
	s, err := crown.Bytes(crown.Head{Turn: 0x0102030405060708, Number: 0x1000000000000000, Size: 0x068000, Seq: 0x0a0b0c})
	want := "\x08\x07\x06\x05\x04\x03\x02\x01" + "\x00\x00\x00\x00\x00\x00\x00\x10" + "\x00\x80\x06\x00\x00\x00\x00\x00" + "\x0c\x0b\x0a\x00\x00\x00\x00\x00"
	if s != want || err != api.OK {
		t.Errorf("%q, %d", s, err)
	}
	h, ok := crown.Read("\x01\x00\x00\x00\x00\x00\x00\x00" + "\x00\x02\x00\x00\x00\x00\x00\x00" + "\x00\x00\x03\x00\x00\x00\x00\x00" + "\x00\x00\x00\x00\x00\x00\x00\x10")
	if h != (crown.Head{Turn: 1, Number: 512, Size: 3 << 16, Seq: most}) || !ok {
		t.Errorf("%+v, %v", h, ok)
	}
}

// TestP8_1EachEdge goes over all heads of numbers that lie at, by or beyond the edges of each field.
func TestP8_1EachEdge(t *testing.T) {
	edges := []int{math.MinInt, math.MinInt + 1, -most, -1, 0, 1, 2, 255, 256, 1 << 32, mostSize - 1, mostSize, mostSize + 1, most - 1, most, most + 1, math.MaxInt}
	good := 0
	for _, turn := range edges {
		for _, number := range edges {
			for _, size := range edges {
				for _, seq := range edges {
					h := crown.Head{Turn: turn, Number: number, Size: size, Seq: seq}
					if canBe(h) {
						whole(t, h)
						good++
					} else {
						noHead(t, h)
					}
				}
			}
		}
	}
	// 10 turns and numbers, 7 sizes and 11 counts of records can be.
	if good != 10*10*7*11 {
		t.Errorf("%d can be", good)
	}
}

// TestP8_1FieldsByHand holds each field alone to its edges, as numbers that are written out.
func TestP8_1FieldsByHand(t *testing.T) {
	h := crown.Head{Turn: 1, Number: 1}
	whole(t, h)
	noHead(t, crown.Head{})
	for field, edges := range map[*int][2]int{
		&h.Turn:   {1, 1152921504606846976},
		&h.Number: {1, 1152921504606846976},
		&h.Size:   {0, 425984},
		&h.Seq:    {0, 1152921504606846976},
	} {
		was := *field
		for _, n := range edges {
			*field = n
			whole(t, h)
		}
		for _, n := range []int{edges[0] - 1, edges[1] + 1, -edges[1], math.MinInt, math.MaxInt} {
			*field = n
			noHead(t, h)
		}
		*field = was
	}
}

// TestP8_1ReadOfOtherLengths: cut short anywhere, or longer, bytes are no head's.
func TestP8_1ReadOfOtherLengths(t *testing.T) {
	for _, h := range []crown.Head{{Turn: 1, Number: 1}, {Turn: 2, Number: 3, Size: 4, Seq: 5}, {Turn: most, Number: most, Size: mostSize, Seq: most}} {
		s := numbersOf(h)
		whole(t, h)
		for n := range s {
			unread(t, s[:n])
			unread(t, s[n+1:])
		}
		for _, more := range []string{"\x00", "\x01", "\x00\x00\x00\x00\x00\x00\x00\x00", s, strings.Repeat("\x00", 72)} {
			unread(t, s+more)
		}
		unread(t, "\x00"+s)
	}
	unread(t, "")
	unread(t, strings.Repeat("\x00", 32))
	unread(t, strings.Repeat("\xff", 32))
}

// TestP8_1ReadOfEachBit turns each bit of a head's bytes: another head's they are, or none's.
func TestP8_1ReadOfEachBit(t *testing.T) {
	s := numbersOf(crown.Head{Turn: 3, Number: 3, Size: 4, Seq: 5})
	for i := range 8 * 32 {
		b := []byte(s)
		b[i/8] ^= 1 << (i % 8)
		// Beside a lower one the bit of 2^60 is too much, and so is that of 2^19 of a size.
		bits := 60
		if i/64 == 2 {
			bits = 19
		}
		if i%64 >= bits {
			unread(t, string(b))
		} else if h, ok := crown.Read(string(b)); !ok || numbersOf(h) != string(b) {
			t.Errorf("bit %d: %+v, %v", i, h, ok)
		}
	}
}

// TestP8_1PutByHand holds a head's sector to bytes that are written out.
func TestP8_1PutByHand(t *testing.T) {
	d := platter.New(12)
	kept(t, d, 0x0102030405060708, crown.Head{Turn: 3, Number: 0x0405, Size: 0x0607, Seq: 0x0809})
	number := "\x08\x07\x06\x05\x04\x03\x02\x01"
	head := "\x03\x00\x00\x00\x00\x00\x00\x00" + "\x05\x04\x00\x00\x00\x00\x00\x00" + "\x07\x06\x00\x00\x00\x00\x00\x00" + "\x09\x08\x00\x00\x00\x00\x00\x00"
	ahead := number + "\x00\x00" + "\x20\x00" + head + strings.Repeat("\x00", 72)
	sum := crc32.Checksum([]byte(ahead), castagnoli)
	want := slices.Repeat([]string{strings.Repeat("\x00", 128)}, 12)
	want[1] = ahead + string([]byte{byte(sum), byte(sum >> 8), byte(sum >> 16), byte(sum >> 24)}) + number
	stands(t, d, want)
}

// TestP8_1PutPlaces: a head stands in the sector of its turn, whatever its number, and the one that it is put by, are; all other sectors stay.
func TestP8_1PutPlaces(t *testing.T) {
	for parity, turns := range [][]int{evenTurns, oddTurns} {
		for _, turn := range turns {
			for _, number := range []int{1, 2, 255, 256, 0x0102030405060708, most - 1, most} {
				for _, sectors := range []int{2, 3, 12, 27} {
					h := headOf(turn)
					d := filled(t, sectors)
					want := all(t, d)
					want[parity] = sectorOf(number, h)
					kept(t, d, number, h)
					stands(t, d, want)
					newest(t, d, h)
					d.Crash(0, 0, 0)
					stands(t, d, want)
					newest(t, d, h)
				}
			}
		}
	}
}

// TestP8_1PutOnNoDisk: that is told ahead of all else.
func TestP8_1PutOnNoDisk(t *testing.T) {
	for _, number := range []int{1, most, 0, -1, most + 1} {
		for _, h := range []crown.Head{{}, headOf(1), headOf(2), {Turn: -1, Number: 1}, {Turn: 2, Number: 1, Size: -1}} {
			if err := crown.Put(nil, number, h); err != api.ErrNil {
				t.Errorf("Put(nil, %d, %+v): %d", number, h, err)
			}
		}
	}
	none(t, nil)
}

// TestP8_1PutOfHeadsThatCantBe: nothing is written of them, nor by numbers that can't be.
func TestP8_1PutOfHeadsThatCantBe(t *testing.T) {
	d := filled(t, 12)
	want := all(t, d)
	none(t, d)
	put(t, d, 11, "it waits")
	want[11] = "it waits" + strings.Repeat("\x00", 120)
	for _, n := range wrongTurns {
		for _, number := range []int{1, 2, most, 0, most + 1} {
			notKept(t, d, number, crown.Head{Turn: n, Number: 1})
			notKept(t, d, number, crown.Head{Turn: 1, Number: n})
			if n != 0 {
				notKept(t, d, number, crown.Head{Turn: 2, Number: 1, Size: n})
				notKept(t, d, number, crown.Head{Turn: 2, Number: 1, Seq: n})
			}
			notKept(t, d, number, crown.Head{Turn: 1, Number: 1, Size: mostSize + 1})
		}
	}
	for _, number := range []int{0, -1, math.MinInt, math.MinInt + 1, -most, most + 1, most + 2, 1 << 61, 1 << 62, math.MaxInt} {
		notKept(t, d, number, headOf(1))
		notKept(t, d, number, headOf(2))
		notKept(t, d, number, crown.Head{})
	}
	stands(t, d, want)
	none(t, d)
}

// TestP8_1DisksOfFewSectors: a sector that a disk hasn't is no head's place.
func TestP8_1DisksOfFewSectors(t *testing.T) {
	blank := platter.New(0)
	notKept(t, blank, 1, headOf(1))
	notKept(t, blank, 1, headOf(2))
	none(t, blank)

	d := filled(t, 1)
	none(t, d)
	notKept(t, d, 1, headOf(3))
	none(t, d)
	kept(t, d, 1, headOf(2))
	newest(t, d, headOf(2))
	notKept(t, d, 2, headOf(3))
	newest(t, d, headOf(2))
	// An odd one's place isn't the first sector, though there is no other.
	put(t, d, 0, sectorOf(3, headOf(3)))
	none(t, d)

	e := filled(t, 2)
	kept(t, e, 1, headOf(2))
	kept(t, e, 2, headOf(3))
	newest(t, e, headOf(3))

	f := platter.New(4096)
	none(t, f)
	kept(t, f, most, headOf(most))
	kept(t, f, most-1, headOf(most-1))
	newest(t, f, headOf(most))
}

// TestP8_1DiskRefuses: at the write nothing is written; at the sync the head stands, and need not last.
func TestP8_1DiskRefuses(t *testing.T) {
	for turn := 4; turn < 8; turn++ {
		for op := 1; op <= 2; op++ {
			d := filled(t, 12)
			kept(t, d, 1, headOf(turn-2))
			kept(t, d, 2, headOf(turn-1))
			want, ahead := all(t, d), all(t, d)
			refused(t, d, op, 3, headOf(turn))
			if op == 2 {
				want[turn%2] = sectorOf(3, headOf(turn))
				newest(t, d, headOf(turn))
			} else {
				newest(t, d, headOf(turn-1))
			}
			stands(t, d, want)
			d.Crash(0, -1, 0)
			stands(t, d, ahead)
			newest(t, d, headOf(turn-1))
			kept(t, d, 4, headOf(turn))
			newest(t, d, headOf(turn))
		}
	}
}

// TestP8_1DiskRefusesLater: what isn't reached isn't refused, and what can't be put is no operation.
func TestP8_1DiskRefusesLater(t *testing.T) {
	d := platter.New(12)
	d.Arm(3)
	notKept(t, d, 1, crown.Head{})
	notKept(t, d, 0, headOf(2))
	none(t, d)
	kept(t, d, 1, headOf(2))
	refused(t, d, 1, 2, headOf(3))
	newest(t, d, headOf(2))
	kept(t, d, 2, headOf(3))
	newest(t, d, headOf(3))
}

// TestP8_1PutSyncsAll: what waited ahead of it lasts too; where it is refused nothing that waits does.
func TestP8_1PutSyncsAll(t *testing.T) {
	d := platter.New(12)
	put(t, d, 2, "a slot's")
	put(t, d, 11, "a record")
	refused(t, d, 2, 5, headOf(2))
	kept(t, d, 6, headOf(3))
	want := slices.Repeat([]string{strings.Repeat("\x00", 128)}, 12)
	want[2], want[11] = "a slot's"+strings.Repeat("\x00", 120), "a record"+strings.Repeat("\x00", 120)
	want[0], want[1] = sectorOf(5, headOf(2)), sectorOf(6, headOf(3))
	d.Crash(0, -1, 0)
	stands(t, d, want)

	e := platter.New(12)
	put(t, e, 2, "a slot's")
	refused(t, e, 2, 5, headOf(2))
	e.Crash(0, -1, 0)
	stands(t, e, slices.Repeat([]string{strings.Repeat("\x00", 128)}, 12))
}

// TestP8_1NewestOfTwo: the greater turn counts, not the sector, the number or the order in which both were put.
func TestP8_1NewestOfTwo(t *testing.T) {
	for _, even := range evenTurns {
		for _, odd := range oddTurns {
			for order := range 2 {
				for _, numbers := range [][2]int{{1, 2}, {2, 1}, {7, 7}, {most, 1}} {
					d := platter.New(12)
					heads := []crown.Head{headOf(even), headOf(odd)}
					heads[order].Number, heads[1-order].Number = 9, 8
					heads[order].Seq, heads[1-order].Size = most, mostSize
					kept(t, d, numbers[0], heads[order])
					newest(t, d, heads[order])
					kept(t, d, numbers[1], heads[1-order])
					if even > odd {
						newest(t, d, heads[0])
					} else {
						newest(t, d, heads[1])
					}
				}
			}
		}
	}
}

// TestP8_1NewestOfOne: a later put takes the place of a greater turn of its kind.
func TestP8_1NewestOfOne(t *testing.T) {
	d := platter.New(12)
	kept(t, d, 1, headOf(100))
	kept(t, d, 2, headOf(51))
	newest(t, d, headOf(100))
	kept(t, d, 3, headOf(2))
	newest(t, d, headOf(51))
	kept(t, d, 4, headOf(1))
	newest(t, d, headOf(2))
	put(t, d, 0, "")
	newest(t, d, headOf(1))
	put(t, d, 1, "")
	none(t, d)
}

// TestP8_1NewestOfWhatIsNone: a sector that isn't a head's that stands where it should is none's; the other one's is told then.
func TestP8_1NewestOfWhatIsNone(t *testing.T) {
	for parity := range 2 {
		turn := 6 + parity
		h := headOf(turn)
		s := sectorOf(9, h)
		other := headOf(turn - 1)
		for why, wrong := range map[string]string{
			"blank":                       "",
			"another kind's":              sectorOf(9, headOf(turn+1)),
			"of index 1":                  leafOf(9, 1, numbersOf(h)),
			"of the last index":           leafOf(9, 4095, numbersOf(h)),
			"of an index that can't be":   leafOf(9, 4096, numbersOf(h)),
			"of number 0":                 leafOf(0, 0, numbersOf(h)),
			"of a number that can't be":   leafOf(most+1, 0, numbersOf(h)),
			"empty":                       leafOf(9, 0, ""),
			"a byte short":                leafOf(9, 0, numbersOf(h)[:31]),
			"a byte long":                 leafOf(9, 0, numbersOf(h)+"\x00"),
			"full":                        leafOf(9, 0, numbersOf(h)+strings.Repeat("\x00", 72)),
			"of turn 0":                   leafOf(9, 0, numbersOf(crown.Head{Turn: 0, Number: 1})),
			"of a turn below 0":           leafOf(9, 0, numbersOf(crown.Head{Turn: -turn, Number: 1})),
			"of a turn that is too great": leafOf(9, 0, numbersOf(crown.Head{Turn: most + turn, Number: 1})),
			"of number 0 within":          leafOf(9, 0, numbersOf(crown.Head{Turn: turn, Size: 1})),
			"of a size too great":         leafOf(9, 0, numbersOf(crown.Head{Turn: turn, Number: 1, Size: mostSize + 1})),
			"of a size below 0":           leafOf(9, 0, numbersOf(crown.Head{Turn: turn, Number: 1, Size: -1})),
			"of too many records":         leafOf(9, 0, numbersOf(crown.Head{Turn: turn, Number: 1, Seq: most + 1})),
			"without its last bytes":      s[:120],
			"with a turned bit":           s[:13] + string([]byte{s[13] ^ 1}) + s[14:],
			"with a turned noughts' bit":  s[:100] + "\x01" + s[101:],
			"with ends unlike":            s[:120] + little(8, 8),
		} {
			d := platter.New(12)
			put(t, d, parity, wrong)
			if h, ok := crown.Newest(d); ok || h != (crown.Head{}) {
				t.Errorf("%s: %+v", why, h)
			}
			put(t, d, 1-parity, sectorOf(8, other))
			newest(t, d, other)
			put(t, d, parity, s)
			newest(t, d, h)
		}
	}
}

// TestP8_1NewestElsewhere: heads in other sectors than both are none.
func TestP8_1NewestElsewhere(t *testing.T) {
	d := platter.New(12)
	for i := 2; i < 12; i++ {
		put(t, d, i, sectorOf(i, headOf(i)))
	}
	none(t, d)
	put(t, d, 0, sectorOf(1, headOf(3)))
	put(t, d, 1, sectorOf(1, headOf(2)))
	none(t, d)
	put(t, d, 1, sectorOf(1, headOf(1)))
	newest(t, d, headOf(1))
}

// TestP8_1NewestReadsWhatWaits: what stands on the disk now is told, synced or not.
func TestP8_1NewestReadsWhatWaits(t *testing.T) {
	d := platter.New(12)
	put(t, d, 0, sectorOf(1, headOf(2)))
	newest(t, d, headOf(2))
	d.Crash(0, -1, 0)
	none(t, d)
	put(t, d, 0, sectorOf(1, headOf(2)))
	d.Crash(1, -1, 0)
	newest(t, d, headOf(2))
}

// TestP8_1AskingChangesNothing: nothing is written by the calls that ask.
func TestP8_1AskingChangesNothing(t *testing.T) {
	d := filled(t, 12)
	kept(t, d, 1, headOf(2))
	put(t, d, 11, "it waits")
	d.Arm(1)
	ops, want := d.Ops(), all(t, d)
	for range 3 {
		newest(t, d, headOf(2))
		whole(t, headOf(3))
		noHead(t, crown.Head{})
	}
	if d.Ops() != ops || d.Later() != 1 {
		t.Error("something was written, or synced")
	}
	stands(t, d, want)
	if d.Sync() != api.ErrDisk {
		t.Error("it isn't refused any more")
	}
}

// TestP8_1DisksKnowNothingOfOneAnother: what one has, or refuses, isn't another one's.
func TestP8_1DisksKnowNothingOfOneAnother(t *testing.T) {
	d, e := platter.New(12), platter.New(12)
	kept(t, d, 5, headOf(2))
	none(t, e)
	kept(t, e, 5, headOf(1))
	refused(t, e, 1, 6, headOf(2))
	kept(t, d, 6, headOf(3))
	newest(t, d, headOf(3))
	newest(t, e, headOf(1))
}

// model is what the chapter says of the calls, on sectors as they stand.
type model struct {
	stands  []string
	refuses int // which operation from now on the disk refuses; none of 0
}

func (m *model) put(number int, h crown.Head) api.Errno {
	at := h.Turn & 1
	if !canBe(h) || number < 1 || number > most || at >= len(m.stands) {
		return api.ErrArg
	}
	refuses := m.refuses
	m.refuses = max(0, refuses-2)
	if refuses != 1 {
		m.stands[at] = sectorOf(number, h)
	}
	if refuses == 1 || refuses == 2 {
		return api.ErrDisk
	}
	return api.OK
}

// newest answers the head of the greater turn of those whose sectors are laid as they stand: all but a sector's numbers is known.
func (m *model) newest() (crown.Head, bool) {
	found := crown.Head{}
	for i, s := range m.stands[:min(2, len(m.stands))] {
		n := func(at int) int { return int(binary.LittleEndian.Uint64([]byte(s)[at:])) }
		h := crown.Head{Turn: n(12), Number: n(20), Size: n(28), Seq: n(36)}
		if number := n(0); canBe(h) && h.Turn&1 == i && number >= 1 && number <= most && sectorOf(number, h) == s && h.Turn > found.Turn {
			found = h
		}
	}
	return found, found != crown.Head{}
}

// TestP8_1EveryOrder asks by chance, with a disk that refuses, crashes, and sectors that others write, and holds all answers against the model's.
func TestP8_1EveryOrder(t *testing.T) {
	found, changed, refusals := 0, 0, 0
	for seed := range int64(80) {
		random := rand.New(rand.NewSource(seed))
		sectors := []int{12, 2, 3, 1, 27, 12, 2, 0}[seed%8]
		d := platter.New(sectors)
		m := &model{stands: all(t, d)}
		pick := func(least, greatest int) int {
			if random.Intn(30) == 0 {
				return []int{-1, 0, least - 1, greatest + 1, greatest, math.MaxInt, math.MinInt}[random.Intn(7)]
			}
			return least + random.Intn(6)
		}
		last := crown.Head{}
		for range 400 {
			switch random.Intn(10) {
			case 0:
				m.refuses = random.Intn(6)
				d.Arm(m.refuses)
			case 1:
				d.Crash(random.Uint64(), random.Intn(4)-1, random.Intn(140)-6)
				m.stands, m.refuses = all(t, d), 0
			case 2:
				if sectors == 0 {
					continue
				}
				i, b := random.Intn(min(3, sectors)), []byte(m.stands[random.Intn(min(2, sectors))])
				b[random.Intn(128)] ^= byte(random.Intn(2))
				m.stands[i], m.refuses = string(b), 0
				d.Arm(0)
				put(t, d, i, m.stands[i])
			default:
				number := pick(1, most)
				h := crown.Head{Turn: pick(1, most), Number: pick(1, most), Size: pick(0, mostSize), Seq: pick(0, most)}
				got, want := crown.Put(d, number, h), m.put(number, h)
				if got != want {
					t.Fatalf("Put(%d, %+v): %d, not %d", number, h, got, want)
				}
				if got == api.ErrDisk {
					refusals++
				}
			}
			stands(t, d, m.stands)
			got, ok := crown.Newest(d)
			want, wantOk := m.newest()
			if got != want || ok != wantOk {
				t.Fatalf("Newest: %+v, %v; not %+v, %v", got, ok, want, wantOk)
			}
			if ok {
				found++
			}
			if got != last {
				changed, last = changed+1, got
			}
		}
	}
	// Else the model and the program might agree upon nothing.
	if found < 10000 || changed < 4000 || refusals < 1000 {
		t.Errorf("just %d were there, %d others than ahead, %d were refused", found, changed, refusals)
	}
}

// TestP8_2Lasts: in turn each head lasts, behind a crash at which nothing, or all, persists; the one ahead of it stays.
func TestP8_2Lasts(t *testing.T) {
	d := platter.New(12)
	for turn := 1; turn < 1000; turn++ {
		kept(t, d, turn, headOf(turn))
		d.Crash(0, 0, turn%129)
		newest(t, d, headOf(turn))
		d.Crash(math.MaxUint64, -1, 0)
		newest(t, d, headOf(turn))
		if turn > 1 {
			s, _ := d.Read(turn%2 ^ 1)
			if s != sectorOf(turn-1, headOf(turn-1)) {
				t.Fatalf("the one ahead of %d: %q", turn, s)
			}
		}
	}
}

// TestP8_2Crashes crashes while the next head is put, ahead of its write and ahead of its sync, whole, torn at each place, and not at all: it is the newest one, whole, or the one ahead of it is.
func TestP8_2Crashes(t *testing.T) {
	became, stayed := 0, 0
	for _, turn := range []int{1, 2, 3, 4, 255, 256, 257, 1 << 32, 1<<32 + 1, most - 1, most} {
		for ahead := range min(turn, 3) {
			for _, number := range []int{10, 1<<40 + 1, most} {
				for op := 1; op <= 2; op++ {
					for mask := range uint64(2) {
						for cut := -1; cut <= 129; cut++ {
							// Of cut -1 none is torn: the write persists by the mask.
							if crash(t, turn, ahead, number, op, mask, min(cut, 0), cut) {
								became++
							} else {
								stayed++
							}
						}
					}
				}
			}
		}
	}
	if became < 500 || stayed < 20000 {
		t.Errorf("%d became the newest one, %d did not", became, stayed)
	}
}

// crash puts up to two heads, then one of the next turn till the disk refuses, and crashes; it answers whether that is the newest one, and goes on from there.
func crash(t *testing.T, turn, ahead, number, op int, mask uint64, torn, cut int) bool {
	t.Helper()
	d := platter.New(12)
	put(t, d, 11, "a record")
	lasts(t, d)
	for i := ahead; i > 0; i-- {
		kept(t, d, 5-i, headOf(turn-i))
	}
	was, had := crown.Newest(d)
	want := all(t, d)
	refused(t, d, op, number, headOf(turn))
	d.Crash(mask, torn, cut)
	now, has := crown.Newest(d)
	s, err := d.Read(turn % 2)
	if err != api.OK {
		t.Fatal(err)
	}
	isNew := s == sectorOf(number, headOf(turn))
	switch {
	case isNew:
		was, had = headOf(turn), true
	case op == 2 && (torn != 0 && mask == 1 || torn == 0 && cut >= 128):
		t.Fatal("all was written, and isn't there")
	}
	if now != was || has != had {
		t.Fatalf("newest is %+v, %v; not %+v, %v", now, has, was, had)
	}
	want[turn%2] = s
	stands(t, d, want)
	kept(t, d, number-1, headOf(turn))
	newest(t, d, headOf(turn))
	d.Crash(0, 0, 5)
	newest(t, d, headOf(turn))
	return isNew
}

// TestP8_2OthersWaited: with it there wait a slot's and a record's sectors, each of which persists or not.
func TestP8_2OthersWaited(t *testing.T) {
	for mask := range uint64(1 << 5) {
		for torn := -1; torn < 5; torn++ {
			for cut := 0; cut <= 128; cut += 4 {
				d := platter.New(12)
				kept(t, d, 1, headOf(6))
				kept(t, d, 2, headOf(7))
				for i := range 4 {
					put(t, d, 2+i, leafOf(3, i, "a slot's"))
				}
				refused(t, d, 2, 4, headOf(8))
				d.Crash(mask, torn, cut)
				if persists := torn != 4 && mask>>4&1 == 1 || torn == 4 && cut == 128; persists {
					newest(t, d, headOf(8))
				} else if h, ok := crown.Newest(d); !ok || h != headOf(7) && (h != headOf(8) || torn != 4) {
					t.Fatalf("newest is %+v, %v", h, ok)
				}
			}
		}
	}
}

// TestP8_2OthersWrite: what is written beside both sectors, synced or not, changes no head.
func TestP8_2OthersWrite(t *testing.T) {
	random := rand.New(rand.NewSource(8))
	d := platter.New(12)
	kept(t, d, 1, headOf(6))
	kept(t, d, 2, headOf(7))
	for range 500 {
		for i := 2; i < 12; i++ {
			if random.Intn(2) == 0 {
				put(t, d, i, sectorOf(3+random.Intn(9), headOf(1+random.Intn(99))))
			}
		}
		if random.Intn(3) == 0 {
			lasts(t, d)
		}
		d.Crash(random.Uint64(), random.Intn(4)-1, random.Intn(140)-6)
		newest(t, d, headOf(7))
	}
}

// TestP8_2WhatCantBePut leaves the newest one, whatever persists at a crash.
func TestP8_2WhatCantBePut(t *testing.T) {
	for mask := range uint64(2) {
		for torn := -1; torn < 2; torn++ {
			d := platter.New(12)
			kept(t, d, 1, headOf(2))
			kept(t, d, 2, headOf(3))
			notKept(t, d, 0, headOf(4))
			notKept(t, d, most+1, headOf(4))
			notKept(t, d, 3, crown.Head{Turn: 4, Number: 1, Size: mostSize + 1})
			d.Crash(mask, torn, 64)
			newest(t, d, headOf(3))
		}
	}
}

// TestP8_2InTurn puts heads in turn by chance, by numbers that no sector bears, with crashes while they are put: the newest one is always the one put last, or that which was being put.
func TestP8_2InTurn(t *testing.T) {
	became, stayed, tears := 0, 0, 0
	for seed := range int64(100) {
		random := rand.New(rand.NewSource(seed))
		d := filled(t, 12)
		newestOne := crown.Head{}
		for range 150 {
			h := crown.Head{Turn: newestOne.Turn + 1, Number: 1 + random.Intn(most), Size: random.Intn(mostSize + 1), Seq: random.Intn(most)}
			number := stamp.Greatest(d) + 1
			if random.Intn(3) == 0 {
				kept(t, d, number, h)
				d.Crash(random.Uint64(), random.Intn(3)-1, random.Intn(129))
				newest(t, d, h)
				newestOne = h
				continue
			}
			refused(t, d, 1+random.Intn(2), number, h)
			d.Crash(random.Uint64(), random.Intn(3)-1, random.Intn(140)-6)
			got, ok := crown.Newest(d)
			s, _ := d.Read(h.Turn % 2)
			switch {
			case ok && got == h:
				became++
			case got != newestOne || ok != (got != crown.Head{}):
				t.Fatalf("newest is %+v, %v; not %+v, nor %+v", got, ok, newestOne, h)
			default:
				stayed++
			}
			if _, whole := stamp.Read(s); !whole && s[0] == byte(number) {
				tears++
			}
			newestOne = got
		}
	}
	if became < 1000 || stayed < 1000 || tears < 300 {
		t.Errorf("%d became the newest one, %d did not, %d tore", became, stayed, tears)
	}
}
