package still_test

import (
	"math/rand"
	"reflect"
	"slices"
	"testing"

	"bondstore/api"
	"bondstore/ask"
	"bondstore/books"
	"bondstore/engine"
	"bondstore/still"
	"bondstore/wide"
)

// chances picks things at random, alike in each run.
type chances struct{ *rand.Rand }

func newChances(seed int64) chances { return chances{rand.New(rand.NewSource(seed))} }

// account is one that can be made, but for its name now and then.
func (c chances) account() api.Account {
	return someone(uint64(c.Intn(40)), []int{0, 0, 0, 0, 0, 0, debits, credits, linked}[c.Intn(9)])
}

// transfer is one that ends a pending one, or not; often it can be done.
func (c chances) transfer(s *books.State) api.Transfer {
	id, kept := uint64(1+c.Intn(300)), s.Keeps()
	if len(kept) > 0 && c.Intn(4) == 0 {
		held := kept[c.Intn(len(kept))].Move
		return end(id, held.Id.Lo, uint64(c.Intn(2)), []int{post, void, post | linked}[c.Intn(3)])
	}
	flags := []int{0, 0, 0, 0, debitMost, creditMost, linked}[c.Intn(7)]
	debit, credit, amount := uint64(1+c.Intn(6)), uint64(1+c.Intn(6)), uint64(1+c.Intn(20))
	if c.Intn(2) == 0 {
		return wait(id, debit, credit, amount, c.Intn(9), flags|c.Intn(30)/29*closeDebit<<c.Intn(2))
	}
	return pay(id, debit, credit, amount, flags)
}

// request is one that may change something, or asks.
func (c chances) request(s *books.State) api.Request {
	q := api.Request{Op: 1 + c.Intn(6), Now: s.Clock() + c.Intn(3), Filter: api.Filter{
		Account: wide.Of(uint64(1 + c.Intn(8))), From: c.Intn(s.Stamp()+2) * c.Intn(2), To: c.Intn(s.Stamp()+2) * c.Intn(2),
		Debits: c.Intn(3) != 0, Credits: c.Intn(3) != 0, Latest: c.Intn(2) == 0, Limit: c.Intn(18),
	}}
	for range 1 + c.Intn(4) {
		q.Accounts = append(q.Accounts, c.account())
		q.Transfers = append(q.Transfers, c.transfer(s))
		q.Ids = append(q.Ids, wide.Of(uint64(c.Intn(300))))
	}
	return q
}

// do does a request, of either kind.
func do(s *books.State, q api.Request) api.Reply {
	if engine.Writes(q) {
		return engine.Do(s, q)
	}
	return ask.Do(s, q)
}

// alike asks two states for all that they tell.
func alike(t *testing.T, s, x *books.State) {
	t.Helper()
	if !modelOf(s).is(modelOf(x)) {
		t.Fatalf("%+v, not %+v", modelOf(x), modelOf(s))
	}
	first, is := s.Due()
	if other, too := x.Due(); is != too || first != other {
		t.Fatalf("%+v, %v, not %+v, %v", other, too, first, is)
	}
	if s.Room() != x.Room() || !slices.Equal(s.Between(0, 0, false), x.Between(0, 0, false)) || !slices.Equal(s.Between(-9, 20, true), x.Between(-9, 20, true)) {
		t.Fatalf("%+v, not %+v", modelOf(x), modelOf(s))
	}
	for id := range uint64(40) {
		a, is := s.Account(wide.Of(id))
		b, too := x.Account(wide.Of(id))
		k, kept := s.Kept(wide.Of(id * 7))
		l, keptToo := x.Kept(wide.Of(id * 7))
		if a != b || is != too || k != l || kept != keptToo {
			t.Fatalf("%d: %+v, %+v, not %+v, %+v", id, b, l, a, k)
		}
	}
}

// goOn does requests with two states: they are told the same, and stay alike.
func goOn(t *testing.T, c chances, s, x *books.State, n int) {
	t.Helper()
	for range n {
		q := c.request(s)
		if got, want := do(x, q), do(s, q); !reflect.DeepEqual(got, want) {
			t.Fatalf("%+v: %+v, not %+v", q, got, want)
		}
		alike(t, s, x)
		if still.Bytes(s) != still.Bytes(x) {
			t.Fatalf("%x, not %x", still.Bytes(x), still.Bytes(s))
		}
	}
}

func TestP21_2Read(t *testing.T) {
	for _, s := range states(t) {
		b := told(t, s)
		x := read(t, b)
		if x == nil {
			t.Fatalf("%x isn't read", b)
		}
		alike(t, s, x)
		if told(t, x) != b {
			t.Errorf("%x, not %x", told(t, x), b)
		}
	}
}

// TestP21_2GoesOn reads states of all kinds, which go on likewise, each in several ways.
func TestP21_2GoesOn(t *testing.T) {
	for i := range states(t) {
		for seed := range int64(8) {
			s := states(t)[i]
			goOn(t, newChances(seed), s, read(t, told(t, s)), 40)
		}
	}
}

// TestP21_2Ends reads a state with pending transfers: they are posted, voided and expire as those of the first one.
func TestP21_2Ends(t *testing.T) {
	s := shop(t)
	x := read(t, told(t, s))
	for _, q := range []api.Request{
		{Op: 2, Transfers: []api.Transfer{end(40, 10, 3, post)}}, {Op: 2, Transfers: []api.Transfer{end(41, 10, 3, post)}}, {Op: 2, Transfers: []api.Transfer{end(42, 11, 0, void)}},
		{Op: 2, Transfers: []api.Transfer{pay(43, 4, 1, 1, 0)}}, {Op: 2, Transfers: []api.Transfer{end(44, 19, 0, void)}}, {Op: 2, Transfers: []api.Transfer{pay(45, 4, 1, 1, 0)}},
		{Op: 3, Now: 29}, {Op: 3, Now: 30}, {Op: 2, Transfers: []api.Transfer{end(46, 22, 0, post)}}, {Op: 2, Transfers: []api.Transfer{pay(18, 3, 1, 1000, debitMost)}}, {Op: 2, Transfers: []api.Transfer{pay(18, 3, 1, 4, debitMost)}},
	} {
		if got, want := do(x, q), do(s, q); !reflect.DeepEqual(got, want) {
			t.Fatalf("%+v: %+v, not %+v", q, got, want)
		}
		alike(t, s, x)
	}
	if k, _ := x.Kept(wide.Of(22)); k.Fate != 4 {
		t.Errorf("%+v", k)
	}
	if k, _ := x.Kept(wide.Of(10)); k.Fate != 2 {
		t.Errorf("%+v", k)
	}
}

// TestP21_2TakesBack reads a state: what is changed behind that is taken back as ever.
func TestP21_2TakesBack(t *testing.T) {
	for _, s := range states(t) {
		b := told(t, s)
		x := read(t, b)
		mark := x.Mark()
		x.Time(x.Clock() + 1)
		x.Open(someone(39, 0))
		x.Keep(pay(299, 1, 2, 1, 0), pay(299, 1, 2, 1, 0), true)
		for _, k := range x.Keeps() {
			x.End(k.Move.Id, 2)
		}
		x.Back(mark)
		alike(t, s, x)
		if told(t, x) != b {
			t.Errorf("%x, not %x", told(t, x), b)
		}
	}
}

// TestP21_2EveryOrder does requests in chance orders: now and then a state is read from its bytes, and goes on beside the first one.
func TestP21_2EveryOrder(t *testing.T) {
	most := 0
	for seed := range int64(10) {
		c, s := newChances(100+seed), books.New()
		must(t, s, api.Request{Op: 1, Accounts: []api.Account{someone(1, 0), someone(2, 0), someone(3, 0), someone(4, debits), someone(5, credits)}})
		x := s
		for range 100 {
			x = read(t, told(t, x))
			goOn(t, c, s, x, 1+c.Intn(10))
		}
		most = max(most, len(told(t, s)))
	}
	if most < still.Most/2 {
		t.Errorf("at most %d bytes", most)
	}
}

// TestP21_2ChanceBytes reads bytes by chance: what is read has them.
func TestP21_2ChanceBytes(t *testing.T) {
	c, reads := newChances(7), 0
	for range 20000 {
		accounts, kept := c.Intn(4), c.Intn(4)
		b := make([]byte, head+owner*accounts+keeping*kept+c.Intn(20)/19)
		c.Read(b)
		b[0] = byte(c.Intn(10)/9 + 1)
		for _, at := range []int{1, 9} {
			low.PutUint64(b[at:], uint64(c.Int63n(1<<40+1<<c.Intn(38))))
		}
		low.PutUint16(b[17:], uint16(accounts))
		low.PutUint16(b[19:], uint16(kept))
		for i := range kept {
			b[head+owner*accounts+keeping*(i+1)-1] %= byte(5 + c.Intn(30)/29)
		}
		if s := read(t, string(b)); s != nil {
			reads++
			if still.Bytes(s) != string(b) {
				t.Fatalf("%x, not %x", still.Bytes(s), b)
			}
		}
	}
	if reads < 5000 || reads > 19000 {
		t.Errorf("%d are read", reads)
	}
}
