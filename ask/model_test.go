package ask_test

import (
	"cmp"
	"math"
	"slices"
	"testing"

	"bondstore/api"
	"bondstore/ask"
	"bondstore/books"
	"bondstore/engine"
	"bondstore/wide"
)

// The flags of accounts and of transfers, as the document says them.
const (
	linked      = 1
	debits      = 2
	credits     = 4
	pending     = 2
	post        = 4
	void        = 8
	debitMost   = 16
	creditMost  = 32
	closeDebit  = 64
	closeCredit = 128
)

// model is a state as what it tells as a whole. All that is asked of it is looked for in its lists, from one end to the other.
type model struct {
	accounts []api.Account
	kept     []api.Kept
	clock    int
	stamp    int
}

// modelOf is what a state tells; nothing, of none.
func modelOf(s *books.State) model {
	return model{s.Accounts(), s.Keeps(), s.Clock(), s.Stamp()}
}

func (m model) is(other model) bool {
	return slices.Equal(m.accounts, other.accounts) && slices.Equal(m.kept, other.kept) && m.clock == other.clock && m.stamp == other.stamp
}

// findAccounts are the accounts of some names.
func (m model) findAccounts(ids []api.Num) []api.Account {
	var list []api.Account
	for _, id := range ids {
		for _, a := range m.accounts {
			if a.Id == id {
				list = append(list, a)
			}
		}
	}
	return list
}

// findTransfers are the transfers of some names.
func (m model) findTransfers(ids []api.Num) []api.Transfer {
	var list []api.Transfer
	for _, id := range ids {
		for _, k := range m.kept {
			if k.Move.Id == id {
				list = append(list, k.Move)
			}
		}
	}
	return list
}

// rising are the transfers in the order of their stamps; those of one stamp in that in which they came.
func (m model) rising() []api.Transfer {
	var list []api.Transfer
	for _, k := range m.kept {
		list = append(list, k.Move)
	}
	slices.SortStableFunc(list, func(x, y api.Transfer) int { return cmp.Compare(x.Stamp, y.Stamp) })
	return list
}

// of are the transfers that a filter lets through: all others are taken out, one reason behind the other.
func (m model) of(f api.Filter) []api.Transfer {
	list := m.rising()
	if f.Latest {
		slices.Reverse(list)
	}
	list = slices.DeleteFunc(list, func(x api.Transfer) bool { return x.Stamp < f.From })
	list = slices.DeleteFunc(list, func(x api.Transfer) bool { return f.To != 0 && x.Stamp > f.To })
	list = slices.DeleteFunc(list, func(x api.Transfer) bool {
		switch {
		case f.Debits && f.Credits:
			return x.Debit != f.Account && x.Credit != f.Account
		case f.Debits:
			return x.Debit != f.Account
		}
		return !f.Credits || x.Credit != f.Account
	})
	return list[:max(0, min(f.Limit, len(list)))]
}

// good is whether a request asks, and can be.
func good(q api.Request) bool {
	f, n := q.Filter, len(q.Ids)
	if q.Op == 6 {
		return f.From > -1 && f.To > -1 && f.Limit > 0 && f.Limit < 17 && (f.Debits || f.Credits)
	}
	return (q.Op == 4 || q.Op == 5) && n > 0 && n < 17
}

// do is what a request is told.
func (m model) do(q api.Request) api.Reply {
	switch {
	case !good(q):
		return api.Reply{Err: 1}
	case q.Op == 4:
		return api.Reply{Accounts: m.findAccounts(q.Ids)}
	case q.Op == 5:
		return api.Reply{Transfers: m.findTransfers(q.Ids)}
	}
	return api.Reply{Transfers: m.of(q.Filter)}
}

// isReply answers whether two replies tell the same.
func isReply(r, want api.Reply) bool {
	return r.Err == want.Err && len(r.Results) == 0 && slices.Equal(r.Accounts, want.Accounts) && slices.Equal(r.Transfers, want.Transfers)
}

// asker asks a state, and knows what it is to tell.
type asker struct {
	t     *testing.T
	s     *books.State
	model model
}

func newAsker(t *testing.T, s *books.State) *asker { return &asker{t, s, modelOf(s)} }

// do does a request that asks, and answers what it was told. Nothing has changed behind it.
func (a *asker) do(q api.Request) api.Reply {
	a.t.Helper()
	mark := a.s.Mark()
	got, want := ask.Do(a.s, q), a.model.do(q)
	if !isReply(got, want) {
		a.t.Fatalf("Do(%+v): %+v, not %+v", q, got, want)
	}
	if is := ask.Good(q); is != good(q) {
		a.t.Fatalf("Good(%+v): %v", q, is)
	}
	a.unchanged(mark)
	return got
}

// find asks for names by the calls, whether there are too many of them or not.
func (a *asker) find(ids ...api.Num) {
	a.t.Helper()
	mark := a.s.Mark()
	if got, want := ask.Accounts(a.s, ids), a.model.findAccounts(ids); !slices.Equal(got, want) {
		a.t.Fatalf("Accounts of %v: %+v, not %+v", ids, got, want)
	}
	if got, want := ask.Transfers(a.s, ids), a.model.findTransfers(ids); !slices.Equal(got, want) {
		a.t.Fatalf("Transfers of %v: %+v, not %+v", ids, got, want)
	}
	a.do(api.Request{Op: 4, Ids: ids})
	a.do(api.Request{Op: 5, Ids: ids})
	a.unchanged(mark)
}

// of asks for what a filter lets through, whether it can be or not.
func (a *asker) of(f api.Filter) []api.Transfer {
	a.t.Helper()
	mark := a.s.Mark()
	got := ask.Of(a.s, f)
	if want := a.model.of(f); !slices.Equal(got, want) {
		a.t.Fatalf("Of(%+v): %+v, not %+v", f, got, want)
	}
	a.unchanged(mark)
	return got
}

// unchanged asks whether the state, and how many changes may be taken back, are as they were.
func (a *asker) unchanged(mark int) {
	a.t.Helper()
	if got := modelOf(a.s); !got.is(a.model) || a.s.Mark() != mark {
		a.t.Fatalf("%d changes of %+v, not %d of %+v", a.s.Mark(), got, mark, a.model)
	}
}

// change does a request that may change something.
func (a *asker) change(q api.Request) {
	a.t.Helper()
	if r := engine.Do(a.s, q); r.Err != 0 {
		a.t.Fatalf("%+v: %+v", q, r)
	}
	a.model = modelOf(a.s)
}

// must does one of which all items are done.
func (a *asker) must(q api.Request) {
	a.t.Helper()
	r := engine.Do(a.s, q)
	if r.Err != 0 || slices.ContainsFunc(r.Results, func(x api.Result) bool { return x != 0 }) {
		a.t.Fatalf("%+v: %+v", q, r)
	}
	a.model = modelOf(a.s)
}

// someone is an account of the ledger 1.
func someone(id uint64, flags int) api.Account {
	return api.Account{Id: wide.Of(id), Ledger: 1, Code: 1, Flags: flags}
}

// pay is a transfer within the ledger 1.
func pay(id, debit, credit, amount uint64, flags int) api.Transfer {
	return api.Transfer{Id: wide.Of(id), Debit: wide.Of(debit), Credit: wide.Of(credit), Amount: wide.Of(amount), Ledger: 1, Code: 1, Flags: flags}
}

// wait is such a transfer that waits, so long.
func wait(id, debit, credit, amount uint64, timeout, flags int) api.Transfer {
	x := pay(id, debit, credit, amount, pending|flags)
	x.Timeout = timeout
	return x
}

// end is a transfer that ends a pending one, and names nothing of it but its name.
func end(id, held, amount uint64, flags int) api.Transfer {
	return api.Transfer{Id: wide.Of(id), Pending: wide.Of(held), Amount: wide.Of(amount), Flags: flags}
}

// shop is a state at 9 of the accounts 1 to 4, and 6 (3 and 6 with limits), with stamps 1 to 4 and 13, and of transfers of all kinds: 10 waits, 11 was posted by 12 in part, 13 voided by 14, 15 has expired and closed nothing more, 16 to 18 are done, 18 by less than what it asked for; 20 and 21 by turns.
func shop(t *testing.T) *asker {
	t.Helper()
	a := newAsker(t, books.New())
	a.must(api.Request{Op: 1, Accounts: []api.Account{someone(1, 0), someone(2, 0), someone(3, debits), someone(4, 0)}})
	a.must(api.Request{Op: 2, Transfers: []api.Transfer{wait(10, 1, 2, 5, 0, 0), wait(11, 2, 3, 6, 50, 0), end(12, 11, 4, post), wait(13, 3, 1, 3, 9, 0), end(14, 13, 0, void), wait(15, 1, 2, 7, 8, closeDebit)}})
	a.must(api.Request{Op: 3, Now: 8})
	a.must(api.Request{Op: 2, Transfers: []api.Transfer{pay(16, 1, 2, 8, 0), pay(17, 2, 1, 9, 0)}})
	a.must(api.Request{Op: 1, Accounts: []api.Account{someone(6, credits)}})
	a.must(api.Request{Op: 3, Now: 9})
	a.must(api.Request{Op: 2, Transfers: []api.Transfer{pay(18, 3, 1, 1000, debitMost), pay(20, 1, 3, 1, 0), pay(21, 3, 1, 1, 0)}})
	return a
}

// odd is a state of parts that no requests could have made: names at the edges, transfers within one account, stamps of all kinds, in no order.
func odd(t *testing.T) *asker {
	t.Helper()
	accounts := []api.Account{
		{Id: wide.Most, Stamp: 5, DebitsPosted: wide.Most, Flags: 1 << 40}, {Stamp: 5}, {Id: api.Num{Hi: 1}, Stamp: -1, Ledger: -7}, {Id: wide.Of(1), Code: math.MaxInt},
	}
	var kept []api.Kept
	for i, stamp := range []int{9, math.MaxInt, 3, 0, 4, math.MinInt, -1, 1, 2, 8, 1 << 40, math.MaxInt - 1, -2, 1<<40 + 1} {
		x := api.Transfer{Id: api.Num{Hi: uint64(i % 3), Lo: uint64(i)}, Debit: accounts[i%4].Id, Credit: accounts[i*5/7%4].Id, Flags: i, Timeout: -i, Stamp: stamp, Born: i - 5}
		asked := api.Transfer{Id: wide.Of(1000), Debit: wide.Of(1), Credit: wide.Of(1), Stamp: 5}
		kept = append(kept, api.Kept{Asked: asked, Move: x, Fate: i % 5})
	}
	s, err := books.Load(accounts, kept, 4, 5)
	if err != api.OK {
		t.Fatalf("Load: %d", err)
	}
	return newAsker(t, s)
}

// states are of all kinds.
func states(t *testing.T) []*asker {
	t.Helper()
	a := shop(t)
	anew, err := books.Load(a.model.accounts, a.model.kept, a.model.clock, a.model.stamp)
	if err != api.OK {
		t.Fatalf("Load: %d", err)
	}
	return []*asker{newAsker(t, books.New()), a, newAsker(t, anew), odd(t), full(t)}
}

// full is a state with no more room: 32 accounts, and 96 transfers, many of the account 1.
func full(t *testing.T) *asker {
	t.Helper()
	a := newAsker(t, books.New())
	for id := uint64(1); id <= 32; id++ {
		a.must(api.Request{Op: 1, Accounts: []api.Account{someone(id, 0)}})
	}
	for id := uint64(101); id <= 196; id++ {
		x := wait(id, 1, 2+id%7, id, int(id), 0)
		if id%3 == 0 {
			x.Debit, x.Credit = x.Credit, x.Debit
		}
		a.must(api.Request{Op: 2, Transfers: []api.Transfer{x}})
	}
	a.must(api.Request{Op: 3, Now: 150})
	return a
}

// names are those of all accounts and transfers of a state, and others.
func (a *asker) names() []api.Num {
	list := []api.Num{{}, wide.Of(1), wide.Of(99), wide.Most, {Hi: 1}, {Hi: 1, Lo: 1}, {Hi: math.MaxUint64}, {Lo: math.MaxUint64}, wide.Of(1000)}
	for _, x := range a.model.accounts {
		list = append(list, x.Id)
	}
	for _, k := range a.model.kept {
		list = append(list, k.Move.Id, k.Asked.Id, api.Num{Hi: k.Move.Id.Lo, Lo: k.Move.Id.Hi})
	}
	return list
}

// owners are the names of accounts, and others.
func (a *asker) owners() []api.Num {
	list := []api.Num{{}, wide.Of(1), wide.Of(10), wide.Of(99), wide.Most, {Hi: 1}, {Hi: 1, Lo: 1}}
	for _, x := range a.model.accounts {
		list = append(list, x.Id)
	}
	return list
}

// bounds are stamps at, by and beyond those that a state has.
func (a *asker) bounds() []int {
	list := []int{0, -1, -5, math.MinInt, math.MinInt + 1, math.MaxInt, math.MaxInt - 1, 1 << 40, 1<<40 + 1, 1 << 32}
	for n := 1; n < 17; n++ {
		list = append(list, n)
	}
	return append(list, 40, 41, 99, a.model.stamp-1, a.model.stamp, a.model.stamp+1)
}
