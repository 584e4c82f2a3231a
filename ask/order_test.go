package ask_test

import (
	"math"
	"math/rand"
	"slices"
	"testing"

	"bondstore/api"
	"bondstore/ask"
	"bondstore/books"
	"bondstore/chain"
	"bondstore/hold"
	"bondstore/wide"
)

// chances picks things at random, alike in each run.
type chances struct{ *rand.Rand }

func newChances(seed int64) chances { return chances{rand.New(rand.NewSource(seed))} }

// account is one that can be made, but for its name now and then.
func (c chances) account() api.Account {
	return someone(uint64(c.Intn(40)), []int{0, 0, 0, 0, 0, 0, debits, credits, linked}[c.Intn(9)])
}

// transfer is one that ends a pending one, or not; often it can be done.
func (c chances) transfer(m model) api.Transfer {
	id := uint64(1 + c.Intn(300))
	if len(m.kept) > 0 && c.Intn(4) == 0 {
		held := m.kept[c.Intn(len(m.kept))].Move
		return end(id, held.Id.Lo, uint64(c.Intn(2)), []int{post, void, post | linked}[c.Intn(3)])
	}
	flags := []int{0, 0, 0, 0, debitMost, creditMost, linked}[c.Intn(7)]
	debit, credit, amount := uint64(1+c.Intn(6)), uint64(1+c.Intn(6)), uint64(1+c.Intn(20))
	if c.Intn(2) == 0 {
		return wait(id, debit, credit, amount, c.Intn(9), flags|c.Intn(30)/29*closeDebit<<c.Intn(2))
	}
	return pay(id, debit, credit, amount, flags)
}

// change is a request that may change something.
func (c chances) change(m model) api.Request {
	q := api.Request{Op: 1 + c.Intn(3), Now: m.clock + c.Intn(3)}
	for range 1 + c.Intn(4) {
		q.Accounts = append(q.Accounts, c.account())
		q.Transfers = append(q.Transfers, c.transfer(m))
	}
	return q
}

// ask is a request that asks; now and then one that can't be, or with more than its Op names.
func (c chances) ask(a *asker) api.Request {
	q := api.Request{Op: 4 + c.Intn(3), Filter: api.Filter{
		Account: wide.Of(uint64(1 + c.Intn(8))), From: c.Intn(a.model.stamp+2) * c.Intn(2), To: c.Intn(a.model.stamp+2) * c.Intn(2),
		Debits: c.Intn(3) != 0, Credits: c.Intn(3) != 0, Latest: c.Intn(2) == 0, Limit: c.Intn(18),
	}}
	names := a.names()
	for range c.Intn(18) {
		q.Ids = append(q.Ids, names[c.Intn(len(names))])
	}
	switch c.Intn(20) {
	case 0:
		q.Op = c.Intn(12) - 2
	case 1:
		q.Filter.From = []int{-1, math.MinInt, math.MaxInt}[c.Intn(3)]
	case 2:
		q.Filter.To = []int{-1, math.MinInt, math.MaxInt}[c.Intn(3)]
	}
	return q
}

// TestP20_1EveryOrder changes states, and asks them, in chance orders, up to full states.
func TestP20_1EveryOrder(t *testing.T) {
	told := map[int]int{}
	for seed := range int64(30) {
		c, a := newChances(seed), newAsker(t, books.New())
		a.must(api.Request{Op: 1, Accounts: []api.Account{someone(1, 0), someone(2, 0), someone(3, 0), someone(4, debits), someone(5, credits)}})
		for range 60 {
			a.change(c.change(a.model))
			for range 10 {
				q := c.ask(a)
				r := a.do(q)
				told[q.Op] += len(r.Accounts) + len(r.Transfers)
				a.find(q.Ids...)
				a.of(q.Filter)
			}
		}
	}
	if told[4] < 1000 || told[5] < 1000 || told[6] < 1000 || len(told) < 10 {
		t.Errorf("%v", told)
	}
}

// TestP20_1Twins has states whose last stamp was loaded below those of their transfers, so that stamps come again: of those, too, what is asked for is what the state tells.
func TestP20_1Twins(t *testing.T) {
	a := shop(t)
	s, err := books.Load(a.model.accounts, a.model.kept, 9, 4)
	if err != api.OK {
		t.Fatalf("Load: %d", err)
	}
	b := newAsker(t, s)
	b.must(api.Request{Op: 2, Transfers: []api.Transfer{pay(30, 1, 2, 1, 0), pay(31, 2, 1, 1, 0), pay(32, 1, 2, 1, 0), pay(33, 1, 2, 1, 0), pay(34, 1, 2, 1, 0)}})
	for _, owner := range b.owners() {
		for _, from := range b.bounds() {
			for k := range 8 {
				b.of(api.Filter{Account: owner, From: from, Debits: k&1 != 0, Credits: k&2 != 0, Latest: k&4 != 0, Limit: 3 + k})
			}
		}
	}
}

// TestP20_2NothingChanges asks where something may still be taken back: it stays so, and is taken back as ahead of it.
func TestP20_2NothingChanges(t *testing.T) {
	a := shop(t)
	was := a.model
	chain.Accounts(a.s, []api.Account{someone(30, 0)})
	chain.Transfers(a.s, []api.Transfer{end(31, 10, 4, post), wait(32, 1, 30, 5, 3, 0)})
	hold.Time(a.s, 50)
	mark := a.s.Mark()
	a.model = modelOf(a.s)
	if mark == 0 {
		t.Fatal("nothing can be taken back")
	}
	for _, op := range ops() {
		a.do(everything(op))
		a.do(api.Request{Op: op, Ids: make([]api.Num, 17), Filter: api.Filter{Limit: -1}})
	}
	a.find(a.names()...)
	for _, owner := range a.owners() {
		a.of(api.Filter{Account: owner, Debits: true, Credits: true, Limit: 16})
	}
	a.unchanged(mark)
	a.s.Back(0)
	a.model = was
	a.unchanged(0)
	a.find(a.names()...)
}

// TestP20_2GoesOnAlike changes two states alike, of which just one is asked between.
func TestP20_2GoesOnAlike(t *testing.T) {
	for seed := range int64(10) {
		c, a, b := newChances(100+seed), newAsker(t, books.New()), newAsker(t, books.New())
		for range 60 {
			q := c.change(a.model)
			a.change(q)
			b.change(q)
			if !a.model.is(b.model) {
				t.Fatalf("%+v, not %+v", a.model, b.model)
			}
			for range 5 {
				a.do(c.ask(a))
			}
		}
	}
}

// parts asks for what a filter lets through in parts, each from the stamp behind the last that was told on (or up to the one ahead of it, of the latest first), by requests.
func (a *asker) parts(f api.Filter) []api.Transfer {
	a.t.Helper()
	var list []api.Transfer
	for range 200 {
		r := a.do(api.Request{Op: 6, Filter: f})
		if r.Err != 0 {
			a.t.Fatalf("Do(%+v): %+v", f, r)
		}
		list = append(list, r.Transfers...)
		if len(r.Transfers) < f.Limit {
			return list
		}
		last := r.Transfers[len(r.Transfers)-1].Stamp
		if f.Latest {
			f.To = last - 1
		} else {
			f.From = last + 1
		}
		if f.Latest && f.To == 0 {
			return list
		}
	}
	a.t.Fatalf("%+v: no end", f)
	return nil
}

// TestP20_2Parts asks in parts of each length, of each account: together they are the whole, each transfer once.
func TestP20_2Parts(t *testing.T) {
	for _, a := range []*asker{newAsker(t, books.New()), shop(t), full(t)} {
		for i, owner := range a.owners() {
			for k := range 8 {
				for limit := 1; limit <= 16; limit++ {
					f := api.Filter{Account: owner, Debits: k&1 != 0, Credits: k&2 != 0, Latest: k&4 != 0, Limit: limit, From: i % 4 * 3, To: i % 3 * 60}
					if k&3 == 0 {
						continue
					}
					whole := f
					whole.Limit = 96
					if got, want := a.parts(f), ask.Of(a.s, whole); !slices.Equal(got, want) {
						t.Fatalf("%+v in parts: %v, not %v", f, numbersOf(got), numbersOf(want))
					}
				}
			}
		}
	}
}

// TestP20_2PartsAsItGoesOn asks in parts, between which more is done: rising, what comes in between is told in the end.
func TestP20_2PartsAsItGoesOn(t *testing.T) {
	a := shop(t)
	f := api.Filter{Account: wide.Of(1), Debits: true, Credits: true, Limit: 2}
	var got []int
	for id := uint64(50); ; id++ {
		list := a.do(api.Request{Op: 6, Filter: f}).Transfers
		got = append(got, numbersOf(list)...)
		if len(list) < f.Limit {
			break
		}
		f.From = list[len(list)-1].Stamp + 1
		if id < 53 {
			a.must(api.Request{Op: 2, Transfers: []api.Transfer{pay(id, 1, 2, 1, 0)}})
		}
	}
	if want := []int{10, 13, 14, 15, 16, 17, 18, 20, 21, 50, 51, 52}; !slices.Equal(got, want) {
		t.Errorf("%v, not %v", got, want)
	}
}
