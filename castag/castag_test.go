package castag_test

import (
	"hash/crc32"
	"math/rand"
	"strings"
	"testing"

	"bondstore/castag"
)

// longest is up to how many bytes a text is promised not to hold once some of it is turned.
const longest = 300

// sums are such at which a byte, a bit or a sign turns, and others.
var sums = []uint32{
	0, 1, 2, 0x7f, 0x80, 0xff, 0x100, 0xffff, 0x10000, 0xffffff, 0x1000000, 0x01020304, 0xfcfdfeff,
	0x7fffffff, 0x80000000, 0x82f63b78, 0x1edc6f41, 0xe3069283, 0xfffffffe, 0xffffffff,
}

// texts are the empty one, each byte alone, and of each length up to a bit beyond longest one of noughts, one of set bits and one of bytes of all kinds, the same in each run.
func texts() []string {
	list := []string{"", "a", "abc", "123456789", "\xff\xfe", "\u00e4\u20ac\U0001f600", strings.Repeat("\x00\xff", 1<<12)}
	for b := range 256 {
		list = append(list, string([]byte{byte(b)}))
	}
	for n := range longest + 10 {
		list = append(list, strings.Repeat("\x00", n), strings.Repeat("\xff", n), text(n))
	}
	return list
}

// text answers one of some bytes of all kinds.
func text(n int) string {
	b := make([]byte, n)
	rand.New(rand.NewSource(int64(n))).Read(b)
	return string(b)
}

// bitwise is a text's sum as the document tells it, one bit at a time.
func bitwise(ahead uint32, s string) uint32 {
	sum := ahead ^ 0xffffffff
	for _, b := range []byte(s) {
		for bit := range 8 {
			sum ^= uint32(b) >> bit & 1
			if sum&1 == 0 {
				sum >>= 1
			} else {
				sum = sum>>1 ^ 0x82f63b78
			}
		}
	}
	return sum ^ 0xffffffff
}

// withSum answers a text with what the library says is its sum behind it.
func withSum(s string) string {
	c := crc32.Checksum([]byte(s), crc32.MakeTable(crc32.Castagnoli))
	return s + string([]byte{byte(c), byte(c >> 8), byte(c >> 16), byte(c >> 24)})
}

// turned answers a text of which those bits are turned, from a place on.
func turned(s string, at int, bits ...byte) string {
	b := []byte(s)
	for i, x := range bits {
		b[at+i] ^= x
	}
	return string(b)
}

func TestP2_1KnownSums(t *testing.T) {
	for s, want := range map[string]uint32{
		"":                                 0,
		"\x00":                             0x527d5351,
		"\xff":                             0xff000000,
		"a":                                0xc1d04330,
		"abc":                              0x364b3fb7,
		"123456789":                        0xe3069283,
		strings.Repeat("\x00", 32):         0x8a9136aa,
		strings.Repeat("\xff", 32):         0x62a8ab43,
		"\x00\x01\x02\x03\x04\x05\x06\x07": 0x8a2cbc3b,
	} {
		if c := castag.Sum(0, s); c != want {
			t.Errorf("Sum(0, %q): %08x, not %08x", s, c, want)
		}
	}
}

func TestP2_1Sum(t *testing.T) {
	table := crc32.MakeTable(crc32.Castagnoli)
	for _, s := range texts() {
		want := crc32.Checksum([]byte(s), table)
		if c := castag.Sum(0, s); c != want || c != bitwise(0, s) {
			t.Errorf("Sum(0, %q): %08x, not %08x", s, c, want)
		}
	}
}

func TestP2_1SumBehindAnother(t *testing.T) {
	table := crc32.MakeTable(crc32.Castagnoli)
	for _, ahead := range sums {
		for _, s := range texts() {
			want := crc32.Update(ahead, table, []byte(s))
			if c := castag.Sum(ahead, s); c != want || c != bitwise(ahead, s) {
				t.Fatalf("Sum(%08x, %q): %08x, not %08x", ahead, s, c, want)
			}
		}
		if c := castag.Sum(ahead, ""); c != ahead {
			t.Errorf("Sum(%08x, nothing): %08x", ahead, c)
		}
	}
}

func TestP2_1SumOfALongText(t *testing.T) {
	s := text(1 << 20)
	want := crc32.Checksum([]byte(s), crc32.MakeTable(crc32.Castagnoli))
	if c := castag.Sum(0, s); c != want {
		t.Errorf("Sum of %d bytes: %08x, not %08x", len(s), c, want)
	}
}

func TestP2_1Bytes(t *testing.T) {
	for c, want := range map[uint32]string{
		0:          "\x00\x00\x00\x00",
		1:          "\x01\x00\x00\x00",
		0x80:       "\x80\x00\x00\x00",
		0x100:      "\x00\x01\x00\x00",
		0x10000:    "\x00\x00\x01\x00",
		0x80000000: "\x00\x00\x00\x80",
		0x01020304: "\x04\x03\x02\x01",
		0xe3069283: "\x83\x92\x06\xe3",
		0xfcfdfeff: "\xff\xfe\xfd\xfc",
		0xffffffff: "\xff\xff\xff\xff",
	} {
		if s := castag.Bytes(c); s != want {
			t.Errorf("Bytes(%08x): %x", c, s)
		}
		for _, more := range []string{"", "\x00", "\xff", "five and more"} {
			if n, ok := castag.FromBytes(want + more); n != c || !ok {
				t.Errorf("FromBytes(%x and %q): %08x, %v", want, more, n, ok)
			}
		}
	}
}

func TestP2_1BytesAreRead(t *testing.T) {
	list := append([]uint32(nil), sums...)
	for bit := range 32 {
		list = append(list, 1<<bit, ^uint32(1<<bit))
	}
	for _, c := range list {
		if n, ok := castag.FromBytes(castag.Bytes(c)); n != c || !ok {
			t.Errorf("%08x is read as %08x, %v", c, n, ok)
		}
	}
}

func TestP2_1FewerBytes(t *testing.T) {
	for _, s := range []string{"", "\x00", "\x01", "\xff", "\x00\x00", "\x01\x02", "\x00\x00\x00", "\x01\x02\x03", "\xff\xff\xff"} {
		if c, ok := castag.FromBytes(s); c != 0 || ok {
			t.Errorf("FromBytes(%x): %08x, %v", s, c, ok)
		}
		if castag.Holds(s) {
			t.Errorf("Holds(%x), of %d bytes", s, len(s))
		}
	}
}

func TestP2_1Holds(t *testing.T) {
	if !castag.Holds("\x00\x00\x00\x00") {
		t.Error("the empty text's sum is 0")
	}
	for _, s := range texts() {
		if !castag.Holds(withSum(s)) {
			t.Errorf("%q, with its sum, doesn't hold", s)
		}
		if own := s + castag.Bytes(castag.Sum(0, s)); own != withSum(s) {
			t.Errorf("%q, with its sum: %x", s, own)
		}
	}
}

func TestP2_1HoldsNot(t *testing.T) {
	for _, s := range []string{
		"abc", "abcd", "123456789", "\x01\x00\x00\x00", "\x00\x00\x00\x80", "\xff\xff\xff\xff", strings.Repeat("\x00", 5), strings.Repeat("\x00", 128),
		"123456789\xe3\x06\x92\x83",   // the highest byte first
		"\x83\x92\x06\xe3123456789",   // the sum ahead
		"123456789\x7c\x6d\xf9\x1c",   // its bits not turned
		withSum("123456789")[1:],      // a byte less, ahead
		withSum("123456789")[:12],     // and at the end
		withSum("123456789") + "\x00", // a byte more
		"\x00" + withSum("123456789"),
	} {
		if castag.Holds(s) {
			t.Errorf("%x holds", s)
		}
	}
}

func TestP2_2SumGoesOn(t *testing.T) {
	for _, s := range texts() {
		whole := castag.Sum(0, s)
		for cut := 0; cut <= len(s); cut += 1 + len(s)/32 {
			if c := castag.Sum(castag.Sum(0, s[:cut]), s[cut:]); c != whole {
				t.Fatalf("%q, cut at %d: %08x, not %08x", s, cut, c, whole)
			}
		}
	}
}

func TestP2_2SumGoesOnByteByByte(t *testing.T) {
	for _, ahead := range sums {
		s, c := text(longest), ahead
		for i := range len(s) {
			c = castag.Sum(castag.Sum(c, s[i:i+1]), "")
			if c != castag.Sum(ahead, s[:i+1]) {
				t.Fatalf("behind %08x, %d bytes: %08x", ahead, i+1, c)
			}
		}
	}
}

func TestP2_2OneBitTurned(t *testing.T) {
	for _, n := range []int{0, 1, 2, 3, 4, 5, 8, 16, 31, 104, 124, 255, longest - 4} {
		for _, s := range []string{withSum(strings.Repeat("\x00", n)), withSum(text(n))} {
			for bit := range 8 * len(s) {
				if castag.Holds(turned(s, bit/8, 1<<(bit%8))) {
					t.Fatalf("%x holds with bit %d turned", s, bit)
				}
			}
		}
	}
}

func TestP2_2UpToFourBytesTurned(t *testing.T) {
	random := rand.New(rand.NewSource(4))
	for _, n := range []int{0, 1, 2, 3, 4, 5, 8, 31, 104, 124, 255, longest - 4} {
		s := withSum(text(n))
		for at := range len(s) {
			for row := 1; row <= 4 && at+row <= len(s); row++ {
				for _, bits := range [][]byte{[]byte("\xff\xff\xff\xff"), []byte("\x80\x80\x80\x80"), []byte("\x01\x00\x00\x80"), dice(random), dice(random)} {
					if castag.Holds(turned(s, at, bits[:row]...)) {
						t.Fatalf("%x holds with %x turned at %d", s, bits[:row], at)
					}
				}
			}
		}
	}
}

// dice answers four bytes of which none is 0, so that as many of them as are taken turn something.
func dice(random *rand.Rand) []byte {
	b := make([]byte, 4)
	for i := range b {
		b[i] = byte(1 + random.Intn(255))
	}
	return b
}

func TestP2_2EachByteTurnedToEach(t *testing.T) {
	s := withSum("123456789")
	for at := range len(s) {
		for x := 1; x < 256; x++ {
			if castag.Holds(turned(s, at, byte(x))) {
				t.Fatalf("%x holds with %02x turned at %d", s, x, at)
			}
		}
	}
}

func TestP2_2TwoBytesTurnedToAll(t *testing.T) {
	s := withSum("abc")
	for at := range len(s) - 1 {
		for x := 1; x < 1<<16; x++ {
			if castag.Holds(turned(s, at, byte(x), byte(x>>8))) {
				t.Fatalf("%x holds with %04x turned at %d", s, x, at)
			}
		}
	}
}
