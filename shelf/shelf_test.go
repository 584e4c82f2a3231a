package shelf_test

import (
	"math"
	"strings"
	"testing"

	"bondstore/api"
	"bondstore/shelf"
	"bondstore/wide"
)

// asked holds what all calls answer of a place to what they must.
func asked(t *testing.T, p shelf.Place) {
	t.Helper()
	if got, want := shelf.Good(p), canBe(p); got != want {
		t.Fatalf("Good(%+v): %v", p, got)
	}
	want, wrong := idOf(p)
	if n, e := shelf.Id(p); n != want || e != wrong {
		t.Fatalf("Id(%+v): %+v, %d, not %+v, %d", p, n, e, want, wrong)
	}
	if got, want := shelf.Show(p), shown(p); got != want {
		t.Fatalf("Show(%+v): %q, not %q", p, got, want)
	}
}

// read holds what Parse answers of a text to what it must.
func read(t *testing.T, s string, state int) {
	t.Helper()
	want, wrong := parsed(s, state)
	if p, e := shelf.Parse(s, state); p != want || e != wrong {
		t.Fatalf("Parse(%q, %d): %+v, %d, not %+v, %d", s, state, p, e, want, wrong)
	}
}

// found holds what Of answers of a number to what it must, and tells whether there is a place.
func found(t *testing.T, n api.Num) bool {
	t.Helper()
	want, is := placeOf(n)
	if p, ok := shelf.Of(n); p != want || ok != is {
		t.Fatalf("Of(%+v) (%q): %+v, %v, not %+v, %v", n, bytesOf(n), p, ok, want, is)
	}
	return is
}

func TestP26_1Written(t *testing.T) {
	for _, x := range []struct {
		place shelf.Place
		id    api.Num
		text  string
	}{
		{shelf.Place{Good: "BOLT", Site: "NY", State: shelf.World}, api.Num{Hi: 0x01000000594e0000, Lo: 0x544c4f42}, "BOLT@NY"},
		{shelf.Place{Good: "BOLT", Site: "NY", State: shelf.OnHand}, api.Num{Hi: 0x01010000594e0000, Lo: 0x544c4f42}, "BOLT@NY"},
		{shelf.Place{Good: "BOLT", Site: "NY", State: shelf.Shipped}, api.Num{Hi: 0x01020000594e0000, Lo: 0x544c4f42}, "BOLT@NY"},
		{shelf.Place{Good: "A", Site: "0"}, api.Num{Hi: 0x0100000000300000, Lo: 0x41}, "A@0"},
		{shelf.Place{Good: "-", Site: "-"}, api.Num{Hi: 0x01000000002d0000, Lo: 0x2d}, "-@-"},
		{shelf.Place{Good: "ABCDEFGHIJ", Site: "KLMN", State: 2}, api.Num{Hi: 0x01024e4d4c4b4a49, Lo: 0x4847464544434241}, "ABCDEFGHIJ@KLMN"},
		{shelf.Place{Good: "0123456789", Site: "Z-9A", State: 1}, api.Num{Hi: 0x010141392d5a3938, Lo: 0x3736353433323130}, "0123456789@Z-9A"},
	} {
		if !shelf.Good(x.place) {
			t.Errorf("%+v can't be", x.place)
		}
		if n, e := shelf.Id(x.place); n != x.id || e != api.OK {
			t.Errorf("Id(%+v): %x, %d", x.place, n, e)
		}
		if p, is := shelf.Of(x.id); p != x.place || !is {
			t.Errorf("Of(%x): %+v, %v", x.id, p, is)
		}
		if s := shelf.Show(x.place); s != x.text {
			t.Errorf("Show(%+v): %q", x.place, s)
		}
		if p, e := shelf.Parse(x.text, x.place.State); p != x.place || e != api.OK {
			t.Errorf("Parse(%q, %d): %+v, %d", x.text, x.place.State, p, e)
		}
	}
}

func TestP26_1Numbers(t *testing.T) {
	if shelf.World != 0 || shelf.OnHand != 1 || shelf.Shipped != 2 || shelf.MaxSite != 4 || shelf.MaxGood != 10 {
		t.Error("the states' numbers, or the names' lengths, are others")
	}
}

func TestP26_1EmptyPlace(t *testing.T) {
	var p shelf.Place
	if n, e := shelf.Id(p); shelf.Good(p) || n != (api.Num{}) || e != api.ErrArg || shelf.Show(p) != "" {
		t.Error("the empty place can be")
	}
}

func TestP26_1States(t *testing.T) {
	for _, state := range states() {
		asked(t, shelf.Place{Good: "BOLT", Site: "NY", State: state})
		asked(t, shelf.Place{Good: "ABCDEFGHIJ", Site: "KLMN", State: state})
		asked(t, shelf.Place{State: state})
		read(t, "BOLT@NY", state)
		read(t, "BOLT@", state)
	}
}

func TestP26_1Names(t *testing.T) {
	var can int
	for _, name := range names() {
		for _, other := range []string{"A", "BOLT", "", "a", "ABCDE", name} {
			for _, p := range []shelf.Place{{Good: name, Site: other, State: 1}, {Good: other, Site: name, State: 2}} {
				asked(t, p)
				read(t, p.Good+"@"+p.Site, p.State)
				if shelf.Good(p) {
					can++
				}
			}
		}
	}
	if can < 300 {
		t.Errorf("just %d of them can be", can)
	}
}

// Each byte at each place of a name, of all lengths.
func TestP26_1Signs(t *testing.T) {
	for b := range 256 {
		for n := 1; n <= 11; n++ {
			for at := range n {
				name := []byte("BOLTS-4711X")[:n]
				name[at] = byte(b)
				asked(t, shelf.Place{Good: string(name), Site: "NY"})
				asked(t, shelf.Place{Good: "BOLT", Site: string(name)})
				read(t, string(name)+"@NY", 2)
				read(t, "BOLT@"+string(name), 2)
			}
		}
	}
}

func TestP26_1LongNames(t *testing.T) {
	long := strings.Repeat("A", 1<<24)
	for _, p := range []shelf.Place{{Good: long, Site: "NY"}, {Good: "BOLT", Site: long}, {Good: long, Site: long, State: 1}} {
		if n, e := shelf.Id(p); shelf.Good(p) || n != (api.Num{}) || e != api.ErrArg || shelf.Show(p) != "" {
			t.Error("a long name is one")
		}
		for _, s := range []string{p.Good + "@" + p.Site, p.Good} {
			if got, e := shelf.Parse(s, 0); got != (shelf.Place{}) || e != api.ErrForm {
				t.Error("a long name is read")
			}
		}
	}
}

func TestP26_1Texts(t *testing.T) {
	for _, s := range []string{
		"", "@", "@@", "A", "AB", "NY", "BOLT", "A@", "@B", "A@B@", "@A@B", "A@B@C", "A@@B", "a@B", "A@b", " A@B", "A @B", "A@ B", "A@B ", "A@B\n", "A@B\x00", "A\x00@B", "\x00",
		"A\uff20B", "A\ufe6bB", "A B", "A-B", "A/B", "A@B@1", "ABCDEFGHIJ@KLMN", "ABCDEFGHIJK@L", "ABCDEFGHIJ@KLMNO", "ABCDEFGHIJKLMN", "ABCDEFGHIJ", "----------@----", "0@0", "Z@Z",
		strings.Repeat("@", 1<<16), strings.Repeat("A@", 1<<16),
	} {
		for state := -1; state <= 3; state++ {
			read(t, s, state)
		}
	}
}

func TestP26_1NoPlaces(t *testing.T) {
	for _, n := range []api.Num{{}, wide.Of(1), wide.Of(7), wide.Of(math.MaxUint64), wide.Most, {Hi: 1}, {Hi: math.MaxUint64}, {Hi: 1 << 56}, {Hi: 1<<56 | 0x410000}, {Hi: 1 << 56, Lo: 0x41}} {
		if p, is := shelf.Of(n); is || p != (shelf.Place{}) {
			t.Errorf("Of(%+v): %+v, %v", n, p, is)
		}
	}
}

// Each byte of an account's name turned to each other one.
func TestP26_1BytesOfNumbers(t *testing.T) {
	for _, s := range []string{
		"BOLT\x00\x00\x00\x00\x00\x00NY\x00\x00\x02\x01",
		"A\x00\x00\x00\x00\x00\x00\x00\x00\x00B\x00\x00\x00\x00\x01",
		"ABCDEFGHIJKLMN\x01\x01",
		"ABCDEFGHI\x00KLM\x00\x00\x01",
	} {
		var can int
		for at := range len(s) {
			for b := range 256 {
				if found(t, number(s[:at]+string([]byte{byte(b)})+s[at+1:])) {
					can++
				}
			}
		}
		if can < 3*37 || can > 15*37 {
			t.Errorf("%q: of those beside it %d are names", s, can)
		}
	}
}

// Noughts ahead of signs, among them, and of all.
func TestP26_1Noughts(t *testing.T) {
	var can int
	for mask := range 1 << 14 {
		b := []byte("ABCDEFGHIJKLMN\x02\x01")
		for bit := range 14 {
			if mask>>bit&1 != 0 {
				b[bit] = 0
			}
		}
		if found(t, number(string(b))) {
			can++
		}
	}
	if can != 10*4 {
		t.Errorf("%d are names", can)
	}
}

func TestP26_1Chances(t *testing.T) {
	c := newChances(26)
	var can, cannot, texts, wrong, places, none int
	for range 60000 {
		p := c.place()
		asked(t, p)
		q := p
		switch c.Intn(3) {
		case 0:
			q.Good = c.bent(q.Good)
		case 1:
			q.Site = c.bent(q.Site)
		case 2:
			q.State = c.Intn(6) - 2
		}
		asked(t, q)
		count(canBe(q), &can, &cannot)
		s := c.bent(p.Good + "@" + p.Site)
		read(t, s, p.State)
		_, e := parsed(s, p.State)
		count(e == api.OK, &texts, &wrong)
		n, _ := idOf(p)
		b := c.bent(bytesOf(n)) + "\x01"
		count(found(t, number(b[:16])), &places, &none)
	}
	for _, n := range []int{can, cannot, texts, wrong, places, none} {
		if n < 5000 {
			t.Errorf("too few of a kind: %d", []int{can, cannot, texts, wrong, places, none})
			break
		}
	}
}

func count(is bool, yes, no *int) {
	if is {
		*yes++
	} else {
		*no++
	}
}

// Numbers of which no more is known than that their highest bytes are such of a name.
func TestP26_1AnyNumbers(t *testing.T) {
	c := newChances(1)
	for range 20000 {
		n := api.Num{Hi: c.Uint64(), Lo: c.Uint64()}
		found(t, n)
		n.Hi = n.Hi>>16&(1<<48-1) | uint64(c.Intn(3))<<48 | 1<<56
		found(t, n)
	}
}

// apart holds that no two of the places that it was told of have one name, and that none has a name of nobody's.
type apart struct {
	t     *testing.T
	names map[api.Num]shelf.Place
}

func (a apart) put(p shelf.Place) {
	a.t.Helper()
	n, e := shelf.Id(p)
	if e != api.OK || wide.Zero(n) || n == wide.Most {
		a.t.Fatalf("Id(%+v): %+v, %d", p, n, e)
	}
	if q, is := a.names[n]; is && q != p {
		a.t.Fatalf("%+v and %+v have one name", p, q)
	}
	a.names[n] = p
	if q, is := shelf.Of(n); q != p || !is {
		a.t.Fatalf("Of(%+v): %+v, %v, not %+v", n, q, is, p)
	}
	if q, e := shelf.Parse(shelf.Show(p), p.State); q != p || e != api.OK {
		a.t.Fatalf("Parse(Show(%+v)): %+v, %d", p, q, e)
	}
}

// short are all names of 1 or 2 signs.
func short() []string {
	var list []string
	for i := range len(signs) {
		list = append(list, signs[i:i+1])
		for j := range len(signs) {
			list = append(list, signs[i:i+1]+signs[j:j+1])
		}
	}
	return list
}

func TestP26_2ShortNames(t *testing.T) {
	a := apart{t, map[api.Num]shelf.Place{}}
	all := short()
	for i, good := range all {
		for j := i % 7; j < len(all); j += 7 {
			for state := range 3 {
				a.put(shelf.Place{Good: good, Site: all[j], State: state})
			}
		}
	}
	if len(a.names) < 800000 {
		t.Errorf("just %d names", len(a.names))
	}
}

// Names that are alike but for where they end.
func TestP26_2Ends(t *testing.T) {
	a := apart{t, map[api.Num]shelf.Place{}}
	for good := 1; good <= 10; good++ {
		for site := 1; site <= 4; site++ {
			for state := range 3 {
				for _, sign := range []string{"A", "Z", "0", "-"} {
					a.put(shelf.Place{Good: strings.Repeat(sign, good), Site: strings.Repeat(sign, site), State: state})
				}
			}
		}
	}
	if len(a.names) != 10*4*3*4 {
		t.Errorf("%d names", len(a.names))
	}
}

// Each sign at each place of the longest names.
func TestP26_2LongestNames(t *testing.T) {
	a := apart{t, map[api.Num]shelf.Place{}}
	const all = "AAAAAAAAAAAAAA"
	for at := range all {
		for i := range signs {
			for state := range 3 {
				s := all[:at] + signs[i:i+1] + all[at+1:]
				a.put(shelf.Place{Good: s[:10], Site: s[10:], State: state})
			}
		}
	}
	if len(a.names) != (14*36+1)*3 {
		t.Errorf("%d names", len(a.names))
	}
}

func TestP26_2Chances(t *testing.T) {
	a := apart{t, map[api.Num]shelf.Place{}}
	c := newChances(2)
	for range 100000 {
		a.put(c.place())
	}
	if len(a.names) < 40000 {
		t.Errorf("just %d names", len(a.names))
	}
}
