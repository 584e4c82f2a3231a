package ask_test

import (
	"math"
	"slices"
	"testing"

	"bondstore/api"
	"bondstore/ask"
	"bondstore/books"
	"bondstore/engine"
	"bondstore/wide"
)

func TestP20_1Example(t *testing.T) {
	for _, s := range []*books.State{books.New(), shop(t).s} {
		r := ask.Do(s, api.Request{Op: api.OpFindAccounts, Ids: []api.Num{wide.Of(99)}})
		if r.Err != api.OK || len(r.Accounts) != 0 || len(r.Transfers) != 0 || len(r.Results) != 0 {
			t.Errorf("%+v", r)
		}
	}
}

// ops are all that there are, and others.
func ops() []int {
	list := []int{math.MinInt, -1 << 32, -252, math.MaxInt, 1 << 32, 1<<32 + 4, 1<<8 + 5, 1<<16 + 6}
	for op := -9; op <= 20; op++ {
		list = append(list, op)
	}
	return list
}

// everything is a request that has a little of all, as any request may have.
func everything(op int) api.Request {
	return api.Request{
		Op:        op,
		Accounts:  []api.Account{someone(30, 0)},
		Transfers: []api.Transfer{pay(30, 1, 2, 5, 0)},
		Now:       50,
		Ids:       []api.Num{wide.Of(16), wide.Of(2), wide.Of(1)},
		Filter:    api.Filter{Account: wide.Of(1), Debits: true, Limit: 9},
	}
}

// counts are how many names, or items, a request may ask for, and numbers beyond.
var counts = []int{0, 1, 2, 3, 7, 8, 9, 14, 15, 16, 17, 18, 31, 32, 33, 255, 256, 257, 272, 512}

// TestP20_1GoodOps asks of each Op, with all that any request may have, and with nothing.
func TestP20_1GoodOps(t *testing.T) {
	a := shop(t)
	for _, op := range ops() {
		if is := ask.Good(everything(op)); is != (op == 4 || op == 5 || op == 6) {
			t.Errorf("Good of the Op %d: %v", op, is)
		}
		if ask.Good(api.Request{Op: op}) {
			t.Errorf("Good of the Op %d, that asks for nothing", op)
		}
		a.do(everything(op))
		a.do(api.Request{Op: op})
		a.do(api.Request{Op: op, Now: 5, Accounts: make([]api.Account, 3), Transfers: make([]api.Transfer, 3)})
	}
}

// TestP20_1GoodNames asks for each number of names, beside a filter of which nothing is asked.
func TestP20_1GoodNames(t *testing.T) {
	a := shop(t)
	for _, n := range counts {
		for _, f := range []api.Filter{{}, {From: -1, To: -1, Limit: 99}, {Debits: true, Limit: 1}} {
			for _, op := range []int{4, 5} {
				q := api.Request{Op: op, Ids: make([]api.Num, n), Filter: f, Now: -1}
				if want := n >= 1 && n <= 16; ask.Good(q) != want {
					t.Errorf("Good of the Op %d with %d names: %v", op, n, !want)
				}
				for i := range q.Ids {
					q.Ids[i] = wide.Of(uint64(n - i))
				}
				a.do(q)
			}
		}
	}
	// Spare room is no names.
	for _, op := range []int{4, 5} {
		if ask.Good(api.Request{Op: op, Ids: make([]api.Num, 0, 8)}) || ask.Good(api.Request{Op: op, Ids: []api.Num{}}) || !ask.Good(api.Request{Op: op, Ids: make([]api.Num, 16, 40)}) {
			t.Errorf("the Op %d", op)
		}
	}
}

// TestP20_1GoodFilters asks by filters at, by and beyond all edges, beside names of which nothing is asked.
func TestP20_1GoodFilters(t *testing.T) {
	a := shop(t)
	bounds := []int{0, 1, 2, 1 << 40, 1<<40 + 1, math.MaxInt, -1, -2, -1 << 32, math.MinInt}
	limits := append([]int{-1, -16, math.MinInt, math.MaxInt, 1<<32 + 1, 1<<8 + 1}, counts...)
	for i, from := range bounds {
		for j, to := range bounds {
			for _, limit := range limits {
				for k := range 8 {
					f := api.Filter{Account: wide.Of(uint64(k % 3)), From: from, To: to, Debits: k&1 != 0, Credits: k&2 != 0, Latest: k&4 != 0, Limit: limit}
					q := api.Request{Op: 6, Filter: f, Ids: make([]api.Num, j*2), Now: -1}
					if want := i < 6 && j < 6 && limit >= 1 && limit <= 16 && k&3 != 0; ask.Good(q) != want {
						t.Errorf("Good(%+v): %v", f, !want)
					}
					a.do(q)
				}
			}
		}
	}
}

// TestP20_1NoState has none: that is told first, whatever is asked for; and there is nothing.
func TestP20_1NoState(t *testing.T) {
	for _, op := range ops() {
		for _, q := range []api.Request{{Op: op}, everything(op), {Op: op, Ids: make([]api.Num, 17), Filter: api.Filter{From: -1}}} {
			if r := ask.Do(nil, q); !isReply(r, api.Reply{Err: 2}) {
				t.Errorf("Do(%+v): %+v", q, r)
			}
		}
	}
	for _, n := range counts {
		if a, x := ask.Accounts(nil, make([]api.Num, n)), ask.Transfers(nil, make([]api.Num, n)); len(a) != 0 || len(x) != 0 {
			t.Errorf("%d names: %+v, %+v", n, a, x)
		}
		if x := ask.Of(nil, api.Filter{Debits: true, Credits: true, Limit: n}); len(x) != 0 {
			t.Errorf("at most %d: %+v", n, x)
		}
	}
}

// TestP20_1Names asks for names that are there, aren't, or come more than once, in any order.
func TestP20_1Names(t *testing.T) {
	for _, a := range states(t) {
		names := a.names()
		a.find()
		for _, n := range names {
			a.find(n)
			a.find(n, n)
			a.find(n, wide.Of(2), n, wide.Of(12), wide.Of(98))
		}
		for i := 0; i+16 < len(names); i++ {
			a.find(names[i : i+16]...)
			a.find(names[i : i+17]...)
		}
		a.find(names...)
		slices.Reverse(names)
		a.find(names...)
	}
}

// TestP20_1NamesAsTheyAre asks for what the document says of some, word by word.
func TestP20_1NamesAsTheyAre(t *testing.T) {
	a := shop(t)
	got := ask.Accounts(a.s, []api.Num{wide.Of(6), wide.Of(5), wide.Of(3), wide.Of(6)})
	six := api.Account{Id: wide.Of(6), Ledger: 1, Code: 1, Flags: credits, Stamp: 13}
	three := api.Account{Id: wide.Of(3), Ledger: 1, Code: 1, Flags: debits, Stamp: 3, DebitsPosted: wide.Of(5), CreditsPosted: wide.Of(5)}
	if !slices.Equal(got, []api.Account{six, three, six}) {
		t.Errorf("%+v", got)
	}
	// As they were done: 12 with what it ends, and by 4; 18 by what there was.
	list := ask.Transfers(a.s, []api.Num{wide.Of(18), wide.Of(1), wide.Of(12), wide.Of(10)})
	want := []api.Transfer{
		{Id: wide.Of(18), Debit: wide.Of(3), Credit: wide.Of(1), Amount: wide.Of(4), Ledger: 1, Code: 1, Flags: debitMost, Stamp: 14, Born: 9},
		{Id: wide.Of(12), Debit: wide.Of(2), Credit: wide.Of(3), Amount: wide.Of(4), Pending: wide.Of(11), Ledger: 1, Code: 1, Flags: post, Stamp: 7},
		{Id: wide.Of(10), Debit: wide.Of(1), Credit: wide.Of(2), Amount: wide.Of(5), Ledger: 1, Code: 1, Flags: pending, Stamp: 5},
	}
	if !slices.Equal(list, want) {
		t.Errorf("%+v, not %+v", list, want)
	}
	if x, y := ask.Transfers(a.s, []api.Num{wide.Of(2)}), ask.Accounts(a.s, []api.Num{wide.Of(10)}); len(x) != 0 || len(y) != 0 {
		t.Errorf("%+v, %+v", x, y)
	}
}

// numbersOf are the lower bits of the names of transfers.
func numbersOf(list []api.Transfer) []int {
	var out []int
	for _, x := range list {
		out = append(out, int(x.Id.Lo))
	}
	return out
}

// TestP20_1FiltersAsTheyAre asks for what some filters let through, each told by hand.
func TestP20_1FiltersAsTheyAre(t *testing.T) {
	a := shop(t)
	one, three := wide.Of(1), wide.Of(3)
	for _, c := range []struct {
		f    api.Filter
		want []int
	}{
		{api.Filter{Account: one, Debits: true, Credits: true, Limit: 16}, []int{10, 13, 14, 15, 16, 17, 18, 20, 21}},
		{api.Filter{Account: one, Debits: true, Limit: 16}, []int{10, 15, 16, 20}},
		{api.Filter{Account: one, Credits: true, Limit: 16}, []int{13, 14, 17, 18, 21}},
		{api.Filter{Account: one, Credits: true, Latest: true, Limit: 16}, []int{21, 18, 17, 14, 13}},
		{api.Filter{Account: one, Debits: true, Credits: true, Limit: 2}, []int{10, 13}},
		{api.Filter{Account: one, Debits: true, Credits: true, Latest: true, Limit: 2}, []int{21, 20}},
		{api.Filter{Account: one, Debits: true, Credits: true, From: 9, To: 12, Limit: 16}, []int{14, 15, 16, 17}},
		{api.Filter{Account: one, Debits: true, Credits: true, From: 9, To: 12, Latest: true, Limit: 3}, []int{17, 16, 15}},
		{api.Filter{Account: one, Debits: true, Credits: true, From: 10, To: 10, Limit: 1}, []int{15}},
		{api.Filter{Account: one, Debits: true, Credits: true, From: 14, Limit: 16}, []int{18, 20, 21}},
		{api.Filter{Account: one, Debits: true, Credits: true, To: 8, Limit: 16}, []int{10, 13}},
		{api.Filter{Account: one, Debits: true, Credits: true, To: 5, Limit: 16}, []int{10}},
		{api.Filter{Account: one, Debits: true, Credits: true, To: 4, Limit: 16}, nil},
		{api.Filter{Account: one, Debits: true, Credits: true, From: 17, Limit: 16}, nil},
		{api.Filter{Account: one, Debits: true, Credits: true, From: 12, To: 11, Limit: 16}, nil},
		{api.Filter{Account: three, Debits: true, Credits: true, Limit: 16}, []int{11, 12, 13, 14, 18, 20, 21}},
		{api.Filter{Account: wide.Of(4), Debits: true, Credits: true, Limit: 16}, nil},
		{api.Filter{Account: wide.Of(99), Debits: true, Credits: true, Limit: 16}, nil},
		{api.Filter{Debits: true, Credits: true, Limit: 16}, nil},
		{api.Filter{Account: api.Num{Hi: 1, Lo: 1}, Debits: true, Credits: true, Limit: 16}, nil},
	} {
		if got := numbersOf(ask.Of(a.s, c.f)); !slices.Equal(got, c.want) {
			t.Errorf("Of(%+v): %v, not %v", c.f, got, c.want)
		}
		if got := a.do(api.Request{Op: 6, Filter: c.f}); !slices.Equal(numbersOf(got.Transfers), c.want) {
			t.Errorf("Do(%+v): %+v, not %v", c.f, got, c.want)
		}
	}
}

// TestP20_1Filters asks by filters of all kinds, also such as no request may have.
func TestP20_1Filters(t *testing.T) {
	for _, a := range states(t) {
		bounds := a.bounds()
		for i, from := range bounds {
			for j, to := range bounds {
				owner := a.owners()[(i*7+j)%len(a.owners())]
				for k := range 8 {
					for _, limit := range []int{[]int{-1, 0, 96, math.MinInt}[(i+j)%4], 1 + k, 16, []int{17, math.MaxInt}[j%2]} {
						f := api.Filter{Account: owner, From: from, To: to, Debits: k&1 != 0, Credits: k&2 != 0, Latest: k&4 != 0, Limit: limit}
						if got := a.of(f); k&3 == 0 && len(got) != 0 {
							t.Fatalf("Of(%+v): %+v", f, got)
						}
					}
				}
			}
		}
	}
}

// TestP20_1FiltersOfEachAccount asks for all of each account, of each state, and by each limit.
func TestP20_1FiltersOfEachAccount(t *testing.T) {
	for _, a := range states(t) {
		for _, owner := range a.owners() {
			for k := range 8 {
				for limit := -1; limit <= 18; limit++ {
					f := api.Filter{Account: owner, Debits: k&1 != 0, Credits: k&2 != 0, Latest: k&4 != 0, Limit: limit}
					a.of(f)
					a.do(api.Request{Op: 6, Filter: f})
				}
			}
		}
	}
}

// TestP20_1Within has transfers from an account to itself: each is told once.
func TestP20_1Within(t *testing.T) {
	var kept []api.Kept
	for i := range uint64(5) {
		kept = append(kept, api.Kept{Move: api.Transfer{Id: wide.Of(i), Debit: wide.Of(7), Credit: wide.Of(7 + i%2), Stamp: int(i) + 1}})
	}
	s, err := books.Load(nil, kept, 0, 9)
	if err != api.OK {
		t.Fatalf("Load: %d", err)
	}
	f := api.Filter{Account: wide.Of(7), Debits: true, Credits: true, Limit: 9}
	if got := numbersOf(ask.Of(s, f)); !slices.Equal(got, []int{0, 1, 2, 3, 4}) {
		t.Errorf("%v", got)
	}
	f.Debits = false
	if got := numbersOf(ask.Of(s, f)); !slices.Equal(got, []int{0, 2, 4}) {
		t.Errorf("%v", got)
	}
}

// TestP20_1JustItsOp has requests with a little of all: just what the Op names is asked for, and told.
func TestP20_1JustItsOp(t *testing.T) {
	a := shop(t)
	r := a.do(everything(4))
	if len(r.Accounts) != 2 || r.Accounts[0].Id != wide.Of(2) || len(r.Transfers) != 0 {
		t.Errorf("%+v", r)
	}
	r = a.do(everything(5))
	if len(r.Accounts) != 0 || !slices.Equal(numbersOf(r.Transfers), []int{16}) {
		t.Errorf("%+v", r)
	}
	r = a.do(everything(6))
	if len(r.Accounts) != 0 || !slices.Equal(numbersOf(r.Transfers), []int{10, 15, 16, 20}) {
		t.Errorf("%+v", r)
	}
	for _, q := range []api.Request{everything(1), everything(2), everything(3)} {
		if r := a.do(q); r.Err != 1 || !engine.Good(q) {
			t.Errorf("Do(%+v): %+v", q, r)
		}
	}
}

// TestP20_1WhatIsHandedIn has names with spare room, that are written into behind the calls: they aren't changed, nor kept.
func TestP20_1WhatIsHandedIn(t *testing.T) {
	a := shop(t)
	ids := []api.Num{wide.Of(3), wide.Of(10), wide.Of(99), wide.Of(1), wide.Of(17), wide.Of(2), wide.Of(16)}
	were := slices.Clone(ids)
	for n := range ids {
		accounts, transfers := ask.Accounts(a.s, ids[:n]), ask.Transfers(a.s, ids[:n])
		first, second := ask.Do(a.s, api.Request{Op: 4, Ids: ids[:n]}), ask.Do(a.s, api.Request{Op: 5, Ids: ids[:n]})
		ask.Do(a.s, api.Request{Op: 6, Ids: ids[:n], Filter: api.Filter{Account: wide.Of(1), Debits: true, Limit: 3}})
		if !slices.Equal(ids, were) {
			t.Fatalf("%v, not %v", ids, were)
		}
		clear(ids)
		if !slices.Equal(accounts, a.model.findAccounts(were[:n])) || !slices.Equal(transfers, a.model.findTransfers(were[:n])) {
			t.Errorf("%+v, %+v", accounts, transfers)
		}
		if n > 0 && (!slices.Equal(first.Accounts, accounts) || !slices.Equal(second.Transfers, transfers)) {
			t.Errorf("%+v, %+v", first, second)
		}
		copy(ids, were)
	}
}

// spoil writes into a reply, and into what it may have room for.
func spoil(r api.Reply) {
	accounts, transfers := r.Accounts[:cap(r.Accounts)], r.Transfers[:cap(r.Transfers)]
	for i := range accounts {
		accounts[i] = someone(77, 77)
	}
	for i := range transfers {
		transfers[i] = pay(77, 7, 7, 7, 7)
	}
}

// TestP20_1AnswersAreNew writes into what was answered: neither the state, nor an earlier or a later answer, sees it.
func TestP20_1AnswersAreNew(t *testing.T) {
	a := shop(t)
	ids := []api.Num{wide.Of(1), wide.Of(2), wide.Of(10), wide.Of(12)}
	f := api.Filter{Account: wide.Of(1), Debits: true, Credits: true, Limit: 4}
	for _, q := range []api.Request{{Op: 4, Ids: ids}, {Op: 5, Ids: ids}, {Op: 6, Filter: f}} {
		first, second := a.do(q), a.do(q)
		spoil(second)
		if !isReply(first, a.model.do(q)) {
			t.Errorf("Do(%+v): %+v", q, first)
		}
		a.do(q)
		spoil(api.Reply{Accounts: ask.Accounts(a.s, ids), Transfers: ask.Transfers(a.s, ids)})
		spoil(api.Reply{Transfers: ask.Of(a.s, f)})
		a.do(q)
	}
	a.find(ids...)
	a.of(f)
}

// TestP20_1LaterChanges asks, and lets the state change: what was told stays as it was, and what is told then is how it is then.
func TestP20_1LaterChanges(t *testing.T) {
	a := shop(t)
	f := api.Filter{Account: wide.Of(1), Debits: true, Credits: true, Latest: true, Limit: 16}
	ids := []api.Num{wide.Of(1), wide.Of(2), wide.Of(10), wide.Of(30), wide.Of(31)}
	was := a.model
	accounts, transfers, of := ask.Accounts(a.s, ids), ask.Transfers(a.s, ids), ask.Of(a.s, f)
	a.must(api.Request{Op: 1, Accounts: []api.Account{someone(30, 0)}})
	a.must(api.Request{Op: 2, Transfers: []api.Transfer{pay(30, 1, 30, 5, 0), end(31, 10, 2, post)}})
	if !slices.Equal(accounts, was.findAccounts(ids)) || !slices.Equal(transfers, was.findTransfers(ids)) || !slices.Equal(of, was.of(f)) {
		t.Errorf("%+v, %+v, %+v", accounts, transfers, of)
	}
	if got := numbersOf(a.of(f)); !slices.Equal(got[:2], []int{31, 30}) {
		t.Errorf("%v", got)
	}
	a.find(ids...)
}

// TestP20_1StatesKnowNothingOfOneAnother asks two states by turns.
func TestP20_1StatesKnowNothingOfOneAnother(t *testing.T) {
	a, b := shop(t), full(t)
	f := api.Filter{Account: wide.Of(1), Debits: true, Credits: true, Limit: 16}
	for range 3 {
		a.find(wide.Of(1), wide.Of(10), wide.Of(101))
		b.find(wide.Of(1), wide.Of(10), wide.Of(101))
		a.of(f)
		b.of(f)
		a.must(api.Request{Op: 3, Now: a.model.clock + 1})
		b.unchanged(0)
	}
}
