package wide_test

import (
	"math"
	"math/big"
	"slices"
	"strings"
	"testing"

	"bondstore/api"
	"bondstore/wide"
)

const top = math.MaxUint64

// edges are numbers at which a word, a sign bit or a digit turns.
func edges() []api.Num {
	list := []api.Num{
		{}, {Lo: 1}, {Lo: 2}, {Lo: 9}, {Lo: 10}, {Lo: 11}, {Lo: 99}, {Lo: 100}, {Lo: 255}, {Lo: 256},
		{Lo: 1<<63 - 1}, {Lo: 1 << 63}, {Lo: top - 1}, {Lo: top},
		{Hi: 1}, {Hi: 1, Lo: 1}, {Hi: 1, Lo: top}, {Hi: 2}, {Hi: 2, Lo: 1}, {Hi: 9, Lo: top}, {Hi: 10},
		{Hi: 1<<63 - 1, Lo: top}, {Hi: 1 << 63}, {Hi: 1 << 63, Lo: 1},
		{Hi: top - 1, Lo: top}, {Hi: top}, {Hi: top, Lo: 1}, {Hi: top, Lo: top - 1}, {Hi: top, Lo: top},
		{Hi: 0x0102030405060708, Lo: 0x090a0b0c0d0e0f10}, {Hi: 0xfffefdfcfbfaf9f8, Lo: 0x8081828384858687},
	}
	power := big.NewInt(1)
	for range 39 {
		list = append(list, small(power), small(new(big.Int).Sub(power, big.NewInt(1))))
		power.Mul(power, big.NewInt(10))
	}
	return list
}

// numbers are the edges, and others of all lengths, the same in each run.
func numbers() []api.Num {
	list := edges()
	state := uint64(1)
	next := func() uint64 {
		state ^= state << 13
		state ^= state >> 7
		state ^= state << 17
		return state
	}
	for i := range 128 {
		n := api.Num{Hi: next(), Lo: next()}
		list = append(list, small(new(big.Int).Rsh(large(n), uint(i))))
	}
	return list
}

func large(a api.Num) *big.Int {
	n := new(big.Int).SetUint64(a.Hi)
	return n.Lsh(n, 64).Or(n, new(big.Int).SetUint64(a.Lo))
}

func small(n *big.Int) api.Num {
	return api.Num{Hi: new(big.Int).Rsh(n, 64).Uint64(), Lo: new(big.Int).And(n, new(big.Int).SetUint64(top)).Uint64()}
}

// held answers what a call that adds or takes away must: 0 and false of what no number holds.
func held(n *big.Int) (api.Num, bool) {
	if n.Sign() < 0 || n.BitLen() > 128 {
		return api.Num{}, false
	}
	return small(n), true
}

func TestP1_1Most(t *testing.T) {
	want := new(big.Int).Sub(new(big.Int).Lsh(big.NewInt(1), 128), big.NewInt(1))
	if large(wide.Most).Cmp(want) != 0 {
		t.Errorf("Most is %v", wide.Most)
	}
}

func TestP1_1Of(t *testing.T) {
	for _, n := range []uint64{0, 1, 10, 1<<63 - 1, 1 << 63, top - 1, top} {
		if a := wide.Of(n); a != (api.Num{Lo: n}) {
			t.Errorf("Of(%d): %v", n, a)
		}
	}
}

func TestP1_1Zero(t *testing.T) {
	for _, a := range numbers() {
		if yes := wide.Zero(a); yes != (large(a).Sign() == 0) {
			t.Errorf("Zero(%v): %v", a, yes)
		}
	}
}

func TestP1_1Order(t *testing.T) {
	for _, a := range numbers() {
		for _, b := range numbers() {
			want := large(a).Cmp(large(b))
			if c := wide.Compare(a, b); c != want {
				t.Fatalf("Compare(%v, %v): %d", a, b, c)
			}
			if yes := wide.Less(a, b); yes != (want < 0) {
				t.Fatalf("Less(%v, %v): %v", a, b, yes)
			}
			least := b
			if want < 0 {
				least = a
			}
			if m := wide.Min(a, b); m != least {
				t.Fatalf("Min(%v, %v): %v", a, b, m)
			}
		}
	}
}

func TestP1_1Add(t *testing.T) {
	for _, a := range numbers() {
		for _, b := range numbers() {
			want, holds := held(new(big.Int).Add(large(a), large(b)))
			if s, ok := wide.Add(a, b); s != want || ok != holds {
				t.Fatalf("Add(%v, %v): %v, %v", a, b, s, ok)
			}
			if s, ok := wide.Sum(a, b); s != want || ok != holds {
				t.Fatalf("Sum(%v, %v): %v, %v", a, b, s, ok)
			}
		}
	}
}

func TestP1_1Sub(t *testing.T) {
	for _, a := range numbers() {
		for _, b := range numbers() {
			want, holds := held(new(big.Int).Sub(large(a), large(b)))
			if s, ok := wide.Sub(a, b); s != want || ok != holds {
				t.Fatalf("Sub(%v, %v): %v, %v", a, b, s, ok)
			}
		}
	}
}

func TestP1_1Sum(t *testing.T) {
	one, half := wide.Of(1), api.Num{Hi: 1 << 63}
	for _, c := range []struct {
		list []api.Num
		want api.Num
		ok   bool
	}{
		{nil, api.Num{}, true},
		{[]api.Num{}, api.Num{}, true},
		{[]api.Num{{}}, api.Num{}, true},
		{[]api.Num{wide.Most}, wide.Most, true},
		{[]api.Num{{Lo: 1}, {Lo: 2}, {Lo: 3}, {Lo: 4}}, wide.Of(10), true},
		{[]api.Num{{Lo: top}, {Lo: top}, {Lo: 2}}, api.Num{Hi: 2}, true},
		{[]api.Num{{}, wide.Most, {}}, wide.Most, true},
		{[]api.Num{{Hi: top}, {Lo: top - 1}, one}, wide.Most, true},
		{[]api.Num{{Hi: top}, {Lo: top}, one}, api.Num{}, false},
		{[]api.Num{half, half}, api.Num{}, false},
		{[]api.Num{half, half, one}, api.Num{}, false},
		{[]api.Num{half, half, half, half}, api.Num{}, false},
		{[]api.Num{wide.Most, {}, one}, api.Num{}, false},
		{[]api.Num{one, wide.Most, {}, {}}, api.Num{}, false},
		{[]api.Num{wide.Most, wide.Most, one, one}, api.Num{}, false},
	} {
		given := slices.Clone(c.list)
		if s, ok := wide.Sum(c.list...); s != c.want || ok != c.ok {
			t.Errorf("Sum(%v): %v, %v", c.list, s, ok)
		}
		if !slices.Equal(given, c.list) {
			t.Errorf("%v was changed to %v", given, c.list)
		}
	}
}

func TestP1_1SumOfMany(t *testing.T) {
	var list []api.Num
	all := new(big.Int)
	for _, a := range numbers() {
		list = append(list, a)
		all.Add(all, large(a))
		want, holds := held(all)
		if s, ok := wide.Sum(list...); s != want || ok != holds {
			t.Fatalf("Sum of %d: %v, %v", len(list), s, ok)
		}
	}
	if _, ok := wide.Sum(list...); ok {
		t.Error("all of them together are no number")
	}
}

func TestP1_1Bytes(t *testing.T) {
	for s, a := range map[string]api.Num{
		strings.Repeat("\x00", 16):                                         {},
		strings.Repeat("\xff", 16):                                         wide.Most,
		"\x01" + strings.Repeat("\x00", 15):                                {Lo: 1},
		strings.Repeat("\x00", 15) + "\x80":                                {Hi: 1 << 63},
		strings.Repeat("\x00", 7) + "\x80\x01\x00\x00\x00\x00\x00\x00\x00": {Hi: 1, Lo: 1 << 63},
		"\x10\x0f\x0e\x0d\x0c\x0b\x0a\x09\x08\x07\x06\x05\x04\x03\x02\x01": {Hi: 0x0102030405060708, Lo: 0x090a0b0c0d0e0f10},
	} {
		if b := wide.Bytes(a); b != s {
			t.Errorf("Bytes(%v): %x", a, b)
		}
		if n, ok := wide.FromBytes(s); n != a || !ok {
			t.Errorf("FromBytes(%x): %v, %v", s, n, ok)
		}
		if n, ok := wide.FromBytes(s + "\xff more"); n != a || !ok {
			t.Errorf("FromBytes(%x and more): %v, %v", s, n, ok)
		}
	}
	for _, a := range numbers() {
		b := []byte(wide.Bytes(a))
		slices.Reverse(b)
		if len(b) != 16 || new(big.Int).SetBytes(b).Cmp(large(a)) != 0 {
			t.Errorf("Bytes(%v): %x, reversed", a, b)
		}
	}
}

func TestP1_1FewerBytes(t *testing.T) {
	for n := range 16 {
		s := strings.Repeat("\xff", n)
		if a, ok := wide.FromBytes(s); a != (api.Num{}) || ok {
			t.Errorf("FromBytes of %d bytes: %v, %v", n, a, ok)
		}
	}
}

func TestP1_1Digits(t *testing.T) {
	for _, a := range numbers() {
		want := large(a).String()
		if s := wide.Show(a); s != want {
			t.Errorf("Show(%v): %s", a, s)
		}
		if n, e := wide.Parse(want); n != a || e != api.OK {
			t.Errorf("Parse(%s): %v, %d", want, n, e)
		}
	}
	if s := wide.Show(wide.Most); s != "340282366920938463463374607431768211455" {
		t.Errorf("Show(Most): %s", s)
	}
}

func refuse(t *testing.T, s string) {
	t.Helper()
	if n, e := wide.Parse(s); n != (api.Num{}) || e != api.ErrForm {
		t.Errorf("Parse(%q): %v, %d", s, n, e)
	}
}

func TestP1_1NoDigits(t *testing.T) {
	for _, s := range []string{
		"", " ", "00", "01", "007", "+1", "-1", "-0", " 1", "1 ", "1\n", "1_000", "1,5", "1.0", "1e3", "0x1", "1a", "a",
		"\u0661", "1\u0662", "\uff11", "\xb1", "1\x00", "\x00",
	} {
		refuse(t, s)
	}
	for i := range 5 {
		for c := range 256 {
			text := []byte("12345")
			text[i] = byte(c)
			if c < '0' || c > '9' {
				refuse(t, string(text))
			}
		}
	}
}

func TestP1_1AboveMost(t *testing.T) {
	most := large(wide.Most)
	for _, more := range []int64{1, 2, 10, 44, 45, 1 << 60} {
		refuse(t, new(big.Int).Add(most, big.NewInt(more)).String())
	}
	for _, s := range []string{
		"340282366920938463463374607431768211460",
		"400000000000000000000000000000000000000",
		"999999999999999999999999999999999999999",
		"1000000000000000000000000000000000000000",
		"3402823669209384634633746074317682114550",
		new(big.Int).Lsh(big.NewInt(1), 192).String(),
		new(big.Int).Lsh(big.NewInt(1), 256).String(),
		strings.Repeat("9", 1<<16),
		"0" + large(wide.Most).String(),
	} {
		refuse(t, s)
	}
}

func TestP1_2AddedIsTakenAway(t *testing.T) {
	for _, a := range numbers() {
		for _, b := range numbers() {
			s, fits := wide.Add(a, b)
			if rest, ok := wide.Sub(s, b); fits && (rest != a || !ok) {
				t.Fatalf("%v and %v less that: %v, %v", a, b, rest, ok)
			}
			rest, fits := wide.Sub(a, b)
			if s, ok := wide.Add(rest, b); fits && (s != a || !ok) {
				t.Fatalf("%v less %v and that: %v, %v", a, b, s, ok)
			}
			if fits == wide.Less(a, b) {
				t.Fatalf("Sub(%v, %v): %v", a, b, fits)
			}
		}
	}
}

func TestP1_2BytesAreRead(t *testing.T) {
	for _, a := range numbers() {
		s := wide.Bytes(a)
		n, ok := wide.FromBytes(s)
		if n != a || !ok {
			t.Errorf("FromBytes(Bytes(%v)): %v, %v", a, n, ok)
		}
		if again := wide.Bytes(n); again != s {
			t.Errorf("Bytes(FromBytes(%x)): %x", s, again)
		}
	}
}

func TestP1_2DigitsAreRead(t *testing.T) {
	for _, a := range numbers() {
		s := wide.Show(a)
		n, e := wide.Parse(s)
		if n != a || e != api.OK {
			t.Errorf("Parse(Show(%v)): %v, %d", a, n, e)
		}
		if again := wide.Show(n); again != s {
			t.Errorf("Show(Parse(%s)): %s", s, again)
		}
	}
}
