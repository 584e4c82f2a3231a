package engine_test

import (
	"math"
	"slices"
	"testing"

	"bondstore/api"
	"bondstore/books"
	"bondstore/chain"
	"bondstore/engine"
	"bondstore/hold"
	"bondstore/wide"
)

func TestP19_1Example(t *testing.T) {
	s := books.New()
	if r := engine.Do(s, api.Request{Op: api.OpTick, Now: 5}); !isReply(r, 0, nil) {
		t.Errorf("Do: %+v", r)
	}
	if s.Clock() != 5 || s.Stamp() != 0 || len(s.Accounts()) != 0 || len(s.Keeps()) != 0 {
		t.Errorf("%+v", modelOf(s))
	}
}

// ops are all that there are, and others.
func ops() []int {
	list := []int{math.MinInt, -1 << 32, -256, math.MaxInt, 1 << 32, 1<<32 + 1, 1<<8 + 2, 1<<16 + 3}
	for op := -9; op <= 20; op++ {
		list = append(list, op)
	}
	return list
}

// everything is a request that has a little of all, as any request may have.
func everything(op int) api.Request {
	return api.Request{
		Op:        op,
		Accounts:  []api.Account{someone(20, 0), someone(0, 0)},
		Transfers: []api.Transfer{pay(20, 1, 2, 5, 0), pay(21, 1, 2, 0, 0), end(22, 10, 0, void)},
		Now:       50,
		Ids:       []api.Num{wide.Of(1)},
		Filter:    api.Filter{Account: wide.Of(1), Debits: true, Credits: true, Limit: 9},
	}
}

// counts are how many items a request may have, and numbers beyond.
var counts = []int{0, 1, 2, 3, 4, 5, 6, 7, 8, 9, 10, 15, 16, 17, 31, 32, 33, 255, 256, 257, 264, 512}

// TestP19_1Writes asks of each Op, whatever else the request has.
func TestP19_1Writes(t *testing.T) {
	for _, op := range ops() {
		want := op == 1 || op == 2 || op == 3
		for _, q := range []api.Request{{Op: op}, everything(op), {Op: op, Now: -1}, {Op: op, Accounts: make([]api.Account, 9), Transfers: make([]api.Transfer, 9), Now: math.MinInt}} {
			if engine.Writes(q) != want {
				t.Errorf("Writes(%+v): %v", q, !want)
			}
		}
	}
}

// TestP19_1GoodBatches asks of each number of items, alone and beside those of the other kind, of which nothing is asked.
func TestP19_1GoodBatches(t *testing.T) {
	for _, n := range counts {
		for _, other := range []int{0, 1, 8, 9} {
			for _, now := range []int{0, -1, 1<<40 + 1} {
				accounts := api.Request{Op: 1, Accounts: make([]api.Account, n), Transfers: make([]api.Transfer, other), Now: now}
				transfers := api.Request{Op: 2, Accounts: make([]api.Account, other), Transfers: make([]api.Transfer, n), Now: now}
				for _, q := range []api.Request{accounts, transfers} {
					if want := n >= 1 && n <= 8; engine.Good(q) != want {
						t.Errorf("Good of the Op %d with %d items, %d others, %d: %v", q.Op, n, other, now, !want)
					}
				}
			}
		}
	}
	// Spare room is no items.
	if engine.Good(opens(make([]api.Account, 0, 8)...)) || engine.Good(moves(make([]api.Transfer, 0, 8)...)) {
		t.Error("no items are a batch")
	}
	if !engine.Good(opens(make([]api.Account, 8, 20)...)) || !engine.Good(moves(make([]api.Transfer, 8, 20)...)) {
		t.Error("eight items are none")
	}
}

// TestP19_1GoodTimes asks of times at, by and beyond their edges, beside items of which nothing is asked.
func TestP19_1GoodTimes(t *testing.T) {
	for _, c := range []struct {
		now  int
		want bool
	}{
		{0, true}, {1, true}, {5, true}, {1 << 31, true}, {1<<32 + 1, true}, {1<<40 - 1, true}, {1 << 40, true},
		{-1, false}, {-5, false}, {-1 << 32, false}, {-1 << 40, false}, {math.MinInt, false},
		{1<<40 + 1, false}, {1 << 41, false}, {1 << 62, false}, {math.MaxInt, false},
	} {
		for _, n := range []int{0, 1, 9} {
			q := api.Request{Op: 3, Accounts: make([]api.Account, n), Transfers: make([]api.Transfer, n), Now: c.now}
			if engine.Good(q) != c.want {
				t.Errorf("Good at %d, with %d items: %v", c.now, n, !c.want)
			}
			b := shop(t)
			if c.want {
				b.must(q)
			} else {
				b.mustNot(q)
			}
		}
	}
}

// TestP19_1GoodNoneOfTheseOps asks of all other Ops, which may ask for what they want.
func TestP19_1GoodNoneOfTheseOps(t *testing.T) {
	b := shop(t)
	for _, op := range ops() {
		for _, q := range []api.Request{{Op: op}, everything(op), {Op: op, Now: 5}, {Op: op, Ids: []api.Num{wide.Of(1)}}} {
			if op >= 1 && op <= 3 {
				continue
			}
			if engine.Good(q) {
				t.Errorf("Good(%+v)", q)
			}
			b.mustNot(q)
		}
	}
	b.asksAll()
}

// TestP19_1CantBe asks for what can't be, where something may still be taken back: nothing has changed, and that may be taken back as ahead of it.
func TestP19_1CantBe(t *testing.T) {
	b := shop(t)
	was := b.model
	chain.Accounts(b.s, []api.Account{someone(20, 0)})
	chain.Transfers(b.s, []api.Transfer{end(21, 10, 4, post)})
	hold.Time(b.s, 50)
	b.model = modelOf(b.s)
	if b.s.Mark() == 0 {
		t.Fatal("nothing can be taken back")
	}
	nine := make([]api.Account, 9)
	for i := range nine {
		nine[i] = someone(uint64(30+i), 0)
	}
	for _, q := range []api.Request{
		{}, {Op: 4, Ids: []api.Num{wide.Of(1)}}, {Op: 7}, everything(6), everything(0),
		opens(), {Op: 1, Accounts: []api.Account{}}, {Op: 1, Transfers: []api.Transfer{pay(30, 1, 2, 5, 0)}, Now: 60}, opens(nine...),
		moves(), {Op: 2, Transfers: []api.Transfer{}}, {Op: 2, Accounts: []api.Account{someone(30, 0)}, Now: 60}, moves(slices.Repeat([]api.Transfer{pay(30, 1, 2, 5, 0)}, 9)...),
		tick(-1), tick(1<<40 + 1), {Op: 3, Accounts: nine[:1], Now: math.MinInt}, {Op: 3, Transfers: []api.Transfer{pay(30, 1, 2, 5, 0)}, Now: math.MaxInt},
	} {
		b.mustNot(q)
	}
	b.asksAll()
	b.s.Back(0)
	b.model = was
	b.asksAll()
}

// TestP19_1NoState has none: that is told first, whatever is asked for.
func TestP19_1NoState(t *testing.T) {
	for _, op := range ops() {
		for _, q := range []api.Request{{Op: op}, everything(op), {Op: op, Now: -1, Accounts: make([]api.Account, 9), Transfers: make([]api.Transfer, 9)}} {
			if r := engine.Do(nil, q); !isReply(r, 2, nil) {
				t.Errorf("Do(%+v): %+v", q, r)
			}
		}
	}
}

// TestP19_1Accounts makes accounts, alone and in chains, with what comes of each.
func TestP19_1Accounts(t *testing.T) {
	b := newBoth(t)
	b.must(opens(someone(1, 0)), 0)
	b.must(opens(someone(1, 0)), 10)
	b.must(opens(someone(0, 0)), 4)
	b.must(opens(someone(1, 1), someone(2, 0)), 10, 1)
	b.must(opens(someone(2, 1), someone(3, 0), someone(2, 0), someone(1, credits), someone(4, 8), someone(5, 1), someone(5, 1)), 0, 0, 10, 11, 3, 1, 2)
	b.must(opens(someone(5, 1), someone(6, 1), someone(7, 1), someone(8, 1), someone(9, 1), someone(10, 1), someone(11, 1), someone(12, 0)), 0, 0, 0, 0, 0, 0, 0, 0)
	want := []api.Account{
		{Id: wide.Of(1), Ledger: 1, Code: 1, Stamp: 1},
		{Id: wide.Of(2), Ledger: 1, Code: 1, Stamp: 2},
		{Id: wide.Of(3), Ledger: 1, Code: 1, Stamp: 3},
	}
	for id := uint64(5); id <= 12; id++ {
		want = append(want, api.Account{Id: wide.Of(id), Ledger: 1, Code: 1, Stamp: int(id) - 1})
	}
	if got := b.s.Accounts(); !slices.Equal(got, want) {
		t.Errorf("%+v, not %+v", got, want)
	}
	b.asksAll()
}

// TestP19_1Transfers does transfers of all kinds, alone and in chains, with what comes of each.
func TestP19_1Transfers(t *testing.T) {
	b := shop(t)
	b.must(moves(pay(20, 1, 2, 5, 0)), 0)
	b.must(moves(pay(20, 1, 2, 5, 0)), 10)
	b.must(moves(pay(20, 1, 2, 6, 0)), 11)
	b.must(moves(pay(21, 1, 2, 5, 1), pay(22, 1, 2, 0, 0), wait(22, 1, 2, 7, 9, 0)), 1, 18, 0)
	b.must(moves(end(23, 22, 0, void), end(24, 10, 4, post), end(25, 13, 0, post), end(26, 15, 0, void), pay(27, 1, 4, 1, 0), pay(28, 1, 5, 1, 0), pay(29, 2, 1, 1000, debitMost), pay(30, 1, 2, 1, 1)), 0, 0, 27, 29, 31, 21, 0, 2)
	a, c := b.account(1), b.account(2)
	if a.DebitsPosted != wide.Of(25+5+4) || a.DebitsPending != wide.Of(9) || a.CreditsPosted != wide.Of(34) || c.CreditsPosted != wide.Of(34) || c.DebitsPosted != wide.Of(34) || c.CreditsPending != wide.Of(0) {
		t.Errorf("%+v, %+v", a, c)
	}
	b.asksAll()
}

// TestP19_1Tick lets time go on, not at all, and back: what has ended by then has expired, and nothing else.
func TestP19_1Tick(t *testing.T) {
	b := shop(t)
	b.must(moves(wait(20, 1, 2, 5, 1, 0), wait(22, 1, 2, 6, 3, 0), wait(21, 2, 1, 4, 3, closeDebit)), 0, 0, 0)
	for _, c := range []struct {
		now, clock int
		waits      uint64
	}{
		{0, 7, 21}, {6, 7, 21}, {7, 7, 21}, {8, 8, 16}, {7, 8, 16}, {9, 9, 16}, {10, 10, 10}, {10, 10, 10}, {49, 49, 10}, {3, 49, 10},
	} {
		b.must(tick(c.now))
		if b.s.Clock() != c.clock || b.account(2).CreditsPending != wide.Of(c.waits) {
			t.Errorf("at %d: clock %d, %+v", c.now, b.s.Clock(), b.account(2))
		}
	}
	if b.fate(20) != 4 || b.fate(21) != 4 || b.fate(22) != 4 || b.fate(11) != 1 || b.account(4).Flags != 8 || b.account(2).Flags != debits {
		t.Errorf("%+v", b.model)
	}
	b.must(tick(1 << 40))
	if b.s.Clock() != 1<<40 || b.fate(11) != 4 || b.fate(10) != 1 || b.account(4).Flags != 0 {
		t.Errorf("%+v", b.model)
	}
	b.must(tick(0))
	if b.s.Clock() != 1<<40 {
		t.Errorf("clock %d", b.s.Clock())
	}
	b.asksAll()
}

// TestP19_1JustItsOp has requests with a little of all: just what the Op names is done, and told.
func TestP19_1JustItsOp(t *testing.T) {
	was := shop(t).model
	b := shop(t)
	b.must(everything(1), 0, 4)
	if len(b.model.accounts) != len(was.accounts)+1 || !slices.Equal(b.model.kept, was.kept) || b.model.clock != 7 {
		t.Errorf("%+v", b.model)
	}
	b = shop(t)
	b.must(everything(2), 0, 18, 0)
	if len(b.model.kept) != len(was.kept)+2 || len(b.model.accounts) != len(was.accounts) || b.model.clock != 7 {
		t.Errorf("%+v", b.model)
	}
	b = shop(t)
	b.must(everything(3))
	if len(b.model.kept) != len(was.kept) || len(b.model.accounts) != len(was.accounts) || b.model.clock != 50 || b.fate(11) != 4 {
		t.Errorf("%+v", b.model)
	}
}

// TestP19_1NothingIsTakenBack has requests that can be, of which something comes, or nothing: behind each neither it, nor what was changed ahead of it, is taken back any more.
func TestP19_1NothingIsTakenBack(t *testing.T) {
	for _, q := range []api.Request{
		opens(someone(20, 0)), opens(someone(1, 0)), opens(someone(0, 0)), opens(someone(20, 1)),
		moves(pay(20, 1, 2, 5, 0)), moves(end(20, 10, 0, void)), moves(pay(20, 1, 2, 0, 0)), moves(pay(20, 1, 2, 5, 1), pay(21, 9, 1, 2, 0)),
		tick(0), tick(7), tick(8), tick(50), tick(1 << 40),
	} {
		for _, ahead := range []func(s *books.State){
			func(s *books.State) {},
			func(s *books.State) { s.Open(someone(30, 0)) },
			func(s *books.State) { chain.Transfers(s, []api.Transfer{pay(30, 1, 2, 5, 1), end(31, 10, 0, post)}) },
			func(s *books.State) { hold.Time(s, 9) },
		} {
			b := shop(t)
			ahead(b.s)
			b.model = modelOf(b.s)
			// That there is nothing to be taken back is asked behind each request.
			if r := b.do(q); r.Err != 0 {
				t.Errorf("Do(%+v): %+v", q, r)
			}
			b.asksAll()
			mark := b.s.Mark()
			b.s.Open(someone(40, 0))
			b.s.Back(mark)
			b.asksAll()
		}
	}
}

// TestP19_1Full fills a state, and goes on asking.
func TestP19_1Full(t *testing.T) {
	b := newBoth(t)
	for id := uint64(1); id <= 32; id += 8 {
		var list []api.Account
		for i := range uint64(8) {
			list = append(list, someone(id+i, 0))
		}
		b.must(opens(list...), 0, 0, 0, 0, 0, 0, 0, 0)
	}
	b.must(opens(someone(33, 0), someone(1, 0), someone(34, 1), someone(35, 0)), 35, 10, 35, 1)
	for id := uint64(101); id <= 196; id += 8 {
		var list []api.Transfer
		for i := range uint64(8) {
			list = append(list, wait(id+i, 1+i, 9+i, id, 5, 0))
		}
		b.must(moves(list...), 0, 0, 0, 0, 0, 0, 0, 0)
	}
	b.must(moves(pay(197, 1, 2, 5, 0), end(198, 101, 0, post), wait(101, 1, 9, 101, 5, 0)), 35, 35, 10)
	b.asksAll()
	b.must(tick(5))
	for _, k := range b.s.Keeps() {
		if k.Fate != 4 {
			t.Errorf("%+v", k)
		}
	}
	b.asksAll()
}

// TestP19_1WhatIsHandedIn has requests with spare room, that are written into behind the calls: they aren't changed, nor kept.
func TestP19_1WhatIsHandedIn(t *testing.T) {
	b := shop(t)
	accounts := []api.Account{someone(20, 1), someone(21, 0), someone(0, 0), someone(22, 1), someone(23, 0)}
	transfers := []api.Transfer{wait(20, 1, 2, 5, 3, 1), end(21, 20, 0, post), pay(22, 1, 2, 0, 1), pay(23, 1, 2, 3, 0), pay(24, 2, 1, 0, debitMost)}
	wereAccounts, wereTransfers := slices.Clone(accounts), slices.Clone(transfers)
	b.must(opens(accounts[:4:5]...), 0, 0, 4, 2)
	b.must(moves(transfers[:4:5]...), 0, 0, 18, 1)
	b.must(api.Request{Op: 3, Accounts: accounts, Transfers: transfers, Now: 9})
	b.mustNot(api.Request{Op: 4, Accounts: accounts, Transfers: transfers, Now: 9})
	if !slices.Equal(accounts, wereAccounts) || !slices.Equal(transfers, wereTransfers) {
		t.Errorf("%+v, %+v", accounts, transfers)
	}
	clear(accounts)
	clear(transfers)
	b.asksAll()
	b.must(opens(someone(20, 0)), 10)
	b.must(moves(wait(20, 1, 2, 5, 3, 0)), 10)
}

// TestP19_1AnswersAreNew writes into what was answered: neither the state, nor a later or an earlier answer, sees it.
func TestP19_1AnswersAreNew(t *testing.T) {
	b := shop(t)
	for _, q := range []api.Request{opens(someone(0, 0), someone(1, 0)), moves(pay(0, 1, 2, 3, 0), pay(10, 1, 2, 5, 0)), everything(1), everything(2)} {
		b.do(q)
		first := b.do(q)
		want := slices.Clone(first.Results)
		second := b.do(q)
		for i := range second.Results {
			second.Results[i] = 77
		}
		if !slices.Equal(first.Results, want) {
			t.Errorf("%v, not %v", first.Results, want)
		}
		b.must(q, want...)
		b.asksAll()
	}
}

// TestP19_1StatesKnowNothingOfOneAnother does requests over two states.
func TestP19_1StatesKnowNothingOfOneAnother(t *testing.T) {
	a, b := shop(t), shop(t)
	a.must(moves(end(20, 10, 0, post), pay(21, 1, 2, 5, 0)), 0, 0)
	b.asksAll()
	b.must(opens(someone(20, 0)), 0)
	a.asksAll()
	a.must(tick(50))
	b.asksAll()
	b.s.Open(someone(21, 0))
	a.must(opens(someone(21, 0)), 0)
	if b.s.Mark() != 1 {
		t.Errorf("%d changes", b.s.Mark())
	}
}

// TestP19_1OverdueStates loads a state in which something has ended already: it expires with the next tick, whatever that tells, and with nothing else.
func TestP19_1OverdueStates(t *testing.T) {
	b := shop(t)
	for i := range b.model.kept {
		if b.model.kept[i].Move.Id == wide.Of(11) {
			b.model.kept[i].Move.Born = -60
		}
	}
	late := &both{t: t, s: b.model.state(t), model: b.model}
	late.must(opens(someone(20, 0)), 0)
	late.must(moves(pay(20, 1, 2, 5, 0)), 0)
	if late.fate(11) != 1 {
		t.Errorf("%+v", late.model)
	}
	late.must(tick(0))
	if late.fate(11) != 4 || late.s.Clock() != 7 {
		t.Errorf("%+v", late.model)
	}
	late.asksAll()
}
