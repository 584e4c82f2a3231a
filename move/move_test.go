package move_test

import (
	"math"
	"testing"

	"bondstore/api"
	"bondstore/books"
	"bondstore/move"
	"bondstore/wide"
)

func TestP16_1Example(t *testing.T) {
	s := books.New()
	s.Open(api.Account{Id: wide.Of(1), Ledger: 1, Code: 1})
	s.Open(api.Account{Id: wide.Of(2), Ledger: 1, Code: 1})
	if r := move.Do(s, pay(7, 1, 2, 5, 0)); r != 0 {
		t.Errorf("Do: %d", r)
	}
	want := []api.Account{
		{Id: wide.Of(1), DebitsPosted: wide.Of(5), Ledger: 1, Code: 1, Stamp: 1},
		{Id: wide.Of(2), CreditsPosted: wide.Of(5), Ledger: 1, Code: 1, Stamp: 2},
	}
	for _, w := range want {
		if a, _ := s.Account(w.Id); a != w {
			t.Errorf("%+v, not %+v", a, w)
		}
	}
}

// shop is a state of the accounts 1 to 4 of the ledger 1 (2's debits are limited, 3's credits are, 4 is closed), and 5 and 6 of the ledger 2.
func shop(t *testing.T) *both {
	b := newBoth(t)
	for i, flags := range []int{0, debits, credits, closed} {
		b.opens(uint64(i+1), flags)
	}
	b.open(api.Account{Id: wide.Of(5), Ledger: 2, Code: 1})
	b.open(api.Account{Id: wide.Of(6), Ledger: 2, Code: 1})
	return b
}

// filled is a shop in which so many transfers are kept, of the names from 1000 on.
func filled(t *testing.T, n int) *both {
	t.Helper()
	b := shop(t)
	for i := range n {
		b.must(pay(1000+uint64(i), 1, 2, 1, pending*(i%2)), 0)
	}
	return b
}

// with is a transfer that something is wrong with.
func with(change func(*api.Transfer)) api.Transfer {
	x := pay(9, 1, 2, 5, 0)
	change(&x)
	return x
}

// fault is a transfer, and what is wrong with it.
type fault struct {
	x    api.Transfer
	want api.Result
}

// byThemselves are transfers that something is wrong with, wherever they are to be done.
func byThemselves() []fault {
	list := []fault{
		{with(func(x *api.Transfer) { x.Flags = 256 }), 3},
		{with(func(x *api.Transfer) { x.Flags = -1 }), 3},
		{with(func(x *api.Transfer) { x.Id = api.Num{} }), 4},
		{with(func(x *api.Transfer) { x.Id = wide.Most }), 5},
		{with(func(x *api.Transfer) { x.Stamp = 1 }), 7},
		{with(func(x *api.Transfer) { x.Born = -1 }), 7},
		{with(func(x *api.Transfer) { x.Timeout = 1 }), 17},
		{with(func(x *api.Transfer) { x.Timeout, x.Flags = 1<<30+1, pending }), 17},
		{with(func(x *api.Transfer) { x.Timeout, x.Flags = -1, pending }), 17},
		{with(func(x *api.Transfer) { x.Debit = api.Num{} }), 12},
		{with(func(x *api.Transfer) { x.Credit = api.Num{} }), 13},
		{with(func(x *api.Transfer) { x.Credit = x.Debit }), 14},
		{with(func(x *api.Transfer) { x.Pending = wide.Of(3) }), 15},
		{with(func(x *api.Transfer) { x.Amount = api.Num{} }), 18},
		{with(func(x *api.Transfer) { x.Amount, x.Flags = api.Num{}, pending|closeDebit }), 18},
		{with(func(x *api.Transfer) { x.Ledger = 0 }), 8},
		{with(func(x *api.Transfer) { x.Ledger = 1 << 32 }), 8},
		{with(func(x *api.Transfer) { x.Code = 0 }), 9},
		{with(func(x *api.Transfer) { x.Code = 1 << 16 }), 9},
		{api.Transfer{}, 4},
	}
	for _, flags := range []int{pending | post, pending | void, post | void, closeDebit, closeCredit, post | debitMost, void | closeCredit} {
		list = append(list, fault{with(func(x *api.Transfer) { x.Flags = flags }), 6})
	}
	return append(list, endings()...)
}

// endings are transfers that end a pending one: what is wrong with them by themselves, else that they do.
func endings() []fault {
	var list []fault
	for _, flag := range []int{post, void, post | linked, void | linked} {
		list = append(list,
			fault{with(func(x *api.Transfer) { x.Flags = flag }), 16},
			fault{with(func(x *api.Transfer) { x.Flags, x.Pending = flag, wide.Of(3) }), 6},
			fault{with(func(x *api.Transfer) { x.Flags, x.Pending, x.Debit = flag, wide.Of(3), x.Credit }), 6},
			fault{with(func(x *api.Transfer) { x.Flags, x.Pending, x.Ledger = flag, wide.Of(3), -1 }), 8},
			fault{with(func(x *api.Transfer) { x.Flags, x.Pending, x.Timeout = flag, wide.Of(3), 1 }), 17},
			fault{api.Transfer{Id: wide.Of(9), Pending: wide.Of(1001), Flags: flag}, 6},
			fault{api.Transfer{Id: wide.Of(1001), Pending: wide.Of(1001), Flags: flag}, 6},
		)
	}
	return list
}

// TestP16_1ByThemselves asks for transfers that can't be done anywhere, of a state, a full one, an empty one and none.
func TestP16_1ByThemselves(t *testing.T) {
	for _, b := range []*both{newBoth(t), shop(t), filled(t, 2), filled(t, 96)} {
		for _, f := range byThemselves() {
			b.must(f.x, f.want)
			if r := move.Do(nil, f.x); r != f.want {
				t.Errorf("Do of no state (%+v): %d, not %d", f.x, r, f.want)
			}
		}
		b.asksAll()
	}
}

// TestP16_1NoState has no accounts: a transfer with which nothing is wrong by itself has none to debit.
func TestP16_1NoState(t *testing.T) {
	b := newBoth(t)
	for _, flags := range []int{0, linked, pending, debitMost, creditMost, debitMost | creditMost, pending | closeDebit, pending | closeCredit} {
		for _, amount := range []api.Num{wide.Of(1), wide.Most} {
			x := pays(1, 1, 2, amount, flags)
			b.must(x, 19)
			if r := move.Do(nil, x); r != 19 {
				t.Errorf("Do of no state (%+v): %d", x, r)
			}
		}
	}
	b.asksAll()
}

// TestP16_1Edges has the greatest and the least of what a transfer may have.
func TestP16_1Edges(t *testing.T) {
	b := newBoth(t)
	for i, ledger := range []int{1, math.MaxUint32} {
		for j, code := range []int{1, math.MaxUint16} {
			n := 4*i + 2*j
			least, most := wide.Of(uint64(n+1)), api.Num{Hi: math.MaxUint64, Lo: math.MaxUint64 - uint64(n)}
			b.open(api.Account{Id: least, Ledger: ledger})
			b.open(api.Account{Id: most, Ledger: ledger})
			x := api.Transfer{Id: least, Debit: most, Credit: least, Amount: wide.Of(1), Ledger: ledger, Code: code}
			b.must(x, 0)
			x = api.Transfer{Id: api.Num{Hi: math.MaxUint64, Lo: uint64(n)}, Debit: least, Credit: most, Amount: wide.Most, Ledger: ledger, Code: code, Flags: pending, Timeout: 1 << 30}
			b.must(x, 0)
		}
	}
	b.asksAll()
}

// TestP16_1Again asks again for transfers that are kept: just so, linked, or with one thing unlike.
func TestP16_1Again(t *testing.T) {
	b := shop(t)
	for i, x := range []api.Transfer{pay(20, 1, 2, 5, 0), pay(21, 3, 1, 5, linked), pay(22, 1, 2, 5, pending), pay(23, 2, 1, 0, debitMost)} {
		b.must(x, 0)
		b.time(i + 1)
		b.must(x, 10)
		again := x
		again.Flags ^= linked
		b.must(again, 10)
		for _, change := range []func(*api.Transfer){
			func(x *api.Transfer) { x.Debit = wide.Of(4) },
			func(x *api.Transfer) { x.Debit = wide.Of(77) },
			func(x *api.Transfer) { x.Credit = wide.Of(5) },
			func(x *api.Transfer) { x.Amount = wide.Of(6) },
			func(x *api.Transfer) { x.Amount.Hi++ },
			func(x *api.Transfer) { x.Ledger++ },
			func(x *api.Transfer) { x.Code++ },
			func(x *api.Transfer) { x.Flags ^= creditMost },
			func(x *api.Transfer) { x.Flags ^= creditMost | linked },
			func(x *api.Transfer) { x.Flags, x.Timeout = x.Flags|pending, 3 },
			func(x *api.Transfer) { x.Flags |= pending | closeDebit },
		} {
			other := x
			change(&other)
			b.must(other, 11)
		}
	}
	b.asksAll()
}

// TestP16_1AgainAsAsked has a transfer of which less is moved than was asked for: it is there as it was asked for, not as it is done.
func TestP16_1AgainAsAsked(t *testing.T) {
	b := shop(t)
	b.must(pay(20, 1, 2, 5, 0), 0)
	for i, amount := range []uint64{0, 9} {
		id := uint64(21 + i)
		b.must(pay(id, 2, 1, amount, debitMost), 0)
		b.must(pay(id, 2, 1, amount, debitMost), 10)
		b.must(pay(id, 2, 1, amount, debitMost|linked), 10)
		b.must(pay(id, 2, 1, 5, debitMost), 11)
		b.must(pays(id, 2, 1, wide.Most, debitMost), 11)
		k, is := b.s.Kept(wide.Of(id))
		if !is || k.Asked.Amount != wide.Of(amount) || k.Move.Amount != wide.Of(5) {
			t.Errorf("%+v, %v", k, is)
		}
		b.must(pay(30+id, 1, 2, 5, 0), 0)
	}
}

// TestP16_1AgainOfOther has a kept transfer that isn't one of move's own: how it was asked for tells, though it is done otherwise.
func TestP16_1AgainOfOther(t *testing.T) {
	asked := pay(20, 1, 2, 5, linked)
	done := api.Transfer{Id: wide.Of(20), Debit: wide.Of(3), Credit: wide.Of(4), Amount: wide.Of(8), Ledger: 7, Code: 8, Flags: post, Stamp: 3, Born: 2}
	ending := api.Transfer{Id: wide.Of(21), Pending: wide.Of(20), Flags: post}
	named := done
	named.Id, named.Stamp = wide.Of(21), 4
	for fate := range 5 {
		b := loaded(t, model{kept: []api.Kept{{Asked: asked, Move: done, Fate: fate}, {Asked: ending, Move: named}}, stamp: 9})
		b.must(pay(20, 1, 2, 5, 0), 10)
		b.must(pay(20, 3, 4, 8, 0), 11)
		b.must(pay(21, 3, 4, 8, 0), 11)
		b.must(ending, 6)
	}
}

// TestP16_1Accounts has accounts that aren't there, are of other ledgers, or are closed.
func TestP16_1Accounts(t *testing.T) {
	b := shop(t)
	inTwo := func(x api.Transfer) api.Transfer {
		x.Ledger = 2
		return x
	}
	for _, f := range []fault{
		{pay(9, 7, 1, 5, 0), 19},
		{pay(9, 7, 8, 5, 0), 19},
		{pay(9, 7, 4, 5, 0), 19},
		{pay(9, 1, 7, 5, 0), 20},
		{pay(9, 4, 7, 5, 0), 20},
		{pays(9, 1, 7, wide.Most, 0), 20},
		{pay(9, 5, 7, 5, 0), 20},
		{pay(9, 1, 5, 5, 0), 21},
		{pay(9, 5, 1, 5, 0), 21},
		{inTwo(pay(9, 1, 5, 5, 0)), 21},
		{inTwo(pay(9, 5, 1, 5, 0)), 21},
		{pay(9, 4, 5, 5, 0), 21},
		{pay(9, 5, 6, 5, 0), 22},
		{inTwo(pay(9, 1, 2, 5, 0)), 22},
		{inTwo(pay(9, 4, 1, 5, 0)), 22},
		{pay(9, 4, 1, 5, 0), 30},
		{pay(9, 1, 4, 5, 0), 31},
		{pay(9, 4, 1, 0, debitMost), 30},
		{pay(9, 1, 4, 0, creditMost), 31},
		{pay(9, 4, 2, 5, pending|closeDebit), 30},
		{pay(9, 3, 4, 5, pending|closeCredit), 31},
		{inTwo(pay(9, 5, 6, 5, 0)), 0},
		{pay(10, 1, 2, 5, 0), 0},
	} {
		b.must(f.x, f.want)
	}
	b.asksAll()
}

// TestP16_1BothClosed has two closed accounts, and names in the higher word alone.
func TestP16_1BothClosed(t *testing.T) {
	b := newBoth(t)
	b.opens(1, closed)
	b.opens(2, closed|debits|credits)
	b.open(api.Account{Id: api.Num{Hi: 1}, Ledger: 1, Code: 1})
	b.must(pay(9, 1, 2, 5, 0), 30)
	x := pay(9, 1, 1, 5, 0)
	x.Debit = api.Num{Hi: 1}
	b.must(x, 31)
	x.Debit = api.Num{Hi: 2}
	b.must(x, 19)
	b.must(pay(9, 2, 1, 5, 0), 30)
}

// TestP16_1Full has room for the last transfer, and for none behind it.
func TestP16_1Full(t *testing.T) {
	b := filled(t, 95)
	b.must(pay(9, 1, 2, 5, 0), 0)
	b.asksAll()
	mark := b.s.Mark()
	for _, f := range []fault{
		{pay(10, 1, 2, 5, 0), 35},
		{pay(10, 2, 1, 500, 0), 35},
		{pay(10, 3, 1, 0, debitMost), 35},
		{pay(10, 1, 3, 0, creditMost), 35},
		{pays(10, 1, 2, wide.Most, pending), 35},
		{pay(9, 1, 2, 5, 0), 10},
		{pay(9, 1, 2, 5, linked), 10},
		{pay(9, 1, 2, 6, 0), 11},
		{pay(1000, 4, 7, 6, 0), 11},
		{pay(10, 7, 1, 5, 0), 19},
		{pay(10, 1, 7, 5, 0), 20},
		{pay(10, 1, 5, 5, 0), 21},
		{pay(10, 5, 6, 5, 0), 22},
		{pay(10, 4, 1, 5, 0), 30},
		{pay(10, 1, 4, 5, 0), 31},
	} {
		b.must(f.x, f.want)
	}
	b.s.Back(mark)
	b.asksAll()
}

// TestP16_1Keeps has transfers that wait, and others, at some times: as they are kept, with the clock as Born, and when they end by themselves.
func TestP16_1Keeps(t *testing.T) {
	b := shop(t)
	waits := pay(20, 1, 2, 5, pending|linked)
	waits.Timeout = 3
	b.must(waits, 0)
	b.time(5)
	waits.Id, waits.Timeout = wide.Of(21), 1<<30
	b.must(waits, 0)
	waits.Id, waits.Timeout = wide.Of(22), 0
	b.must(waits, 0)
	b.must(pay(23, 1, 2, 4, linked), 0)
	want := []api.Kept{
		{Asked: b.model.kept[0].Asked, Move: b.model.kept[0].Move, Fate: 1},
		{Asked: b.model.kept[1].Asked, Move: b.model.kept[1].Move, Fate: 1},
		{Asked: b.model.kept[2].Asked, Move: b.model.kept[2].Move, Fate: 1},
		{Asked: pay(23, 1, 2, 4, linked), Move: pay(23, 1, 2, 4, linked)},
	}
	want[3].Move.Stamp, want[3].Move.Born = 10, 5
	for i, w := range want {
		if got, _ := b.s.Kept(wide.Of(uint64(20 + i))); got != w {
			t.Errorf("%+v, not %+v", got, w)
		}
	}
	due, is := b.s.Due()
	if !is || due.Move.Id != wide.Of(20) || due.Move.Born != 0 {
		t.Errorf("Due: %+v, %v", due, is)
	}
	for _, now := range []int{5 + 1<<30 - 1, 5 + 1<<30, 1 << 40} {
		b.time(now)
		b.must(pay(uint64(now), 1, 2, 1, 0), 0)
	}
	b.asksAll()
}

// TestP16_1Closes has transfers that close accounts of any flags: these give and take no more.
func TestP16_1Closes(t *testing.T) {
	for _, was := range []int{0, debits, credits, debits | credits, 16, -16, 1, 7} {
		b := newBoth(t)
		b.opens(1, 0)
		b.opens(2, 0)
		b.open(api.Account{Id: wide.Of(3), CreditsPosted: wide.Of(90), Ledger: 1, Flags: was})
		b.open(api.Account{Id: wide.Of(4), DebitsPosted: wide.Of(90), Ledger: 1, Flags: was})
		b.must(pay(8, 3, 4, 1, pending), 0)
		b.must(pay(9, 3, 1, 5, pending|closeDebit), 0)
		b.must(pay(10, 3, 1, 1, 0), 30)
		b.must(pay(10, 1, 3, 1, 0), 31)
		b.must(pay(11, 2, 4, 5, pending|closeCredit|linked), 0)
		b.must(pay(12, 4, 2, 1, 0), 30)
		b.must(pay(12, 2, 4, 1, 0), 31)
		for i, want := range []int{0, 0, was | closed, was | closed} {
			if a, _ := b.s.Account(wide.Of(uint64(i + 1))); a.Flags != want {
				t.Errorf("account %d: flags %d, not %d", i+1, a.Flags, want)
			}
		}
		b.must(pay(13, 1, 2, 5, pending|closeCredit|closeDebit), 0)
		b.must(pay(14, 1, 2, 1, 0), 30)
		b.must(pay(14, 2, 1, 1, 0), 30)
		b.asksAll()
	}
}

// TestP16_1RefusedDoesntClose has transfers that close, and fail: their accounts stay open.
func TestP16_1RefusedDoesntClose(t *testing.T) {
	b := shop(t)
	b.must(pay(9, 2, 1, 5, pending|closeDebit|closeCredit), 33)
	b.must(pay(9, 1, 3, 5, pending|closeDebit|closeCredit), 34)
	b.must(pay(9, 2, 1, 0, pending|closeDebit|closeCredit|debitMost), 33)
	b.must(pay(9, 1, 3, 0, pending|closeDebit|closeCredit|creditMost), 34)
	b.must(pay(9, 1, 2, 5, 0), 0)
	b.must(pays(10, 1, 2, wide.Most, pending|closeDebit|closeCredit), 32)
	b.must(pay(11, 3, 1, 5, 0), 0)
	b.must(pay(12, 2, 3, 5, 0), 0)
	b.asksAll()
}

// TestP16_1TakenBack has transfers that are taken back as a whole, and done again.
func TestP16_1TakenBack(t *testing.T) {
	b := shop(t)
	list := []api.Transfer{pay(20, 1, 2, 50, 0), pay(21, 2, 1, 10, pending), pay(22, 2, 3, 0, debitMost|creditMost), pay(23, 3, 1, 7, linked), pay(24, 1, 3, 9, creditMost|pending|closeDebit|closeCredit)}
	list[1].Timeout = 2
	b.time(1)
	for range 2 {
		mark, was := b.s.Mark(), b.model.copy()
		for _, x := range list {
			inner, before := b.s.Mark(), b.model.copy()
			r := b.do(x)
			b.s.Back(inner)
			b.model = before
			b.asksAll()
			b.must(x, r)
			b.time(b.model.clock + 1)
		}
		b.s.Back(mark)
		b.model = was
		b.asksAll()
	}
	b.must(list[0], 0)
	b.s.Clear()
	b.s.Back(0)
	b.asksAll()
}

// TestP16_1StatesKnowNothingOfOneAnother does one transfer over two states.
func TestP16_1StatesKnowNothingOfOneAnother(t *testing.T) {
	a, b := shop(t), shop(t)
	a.must(pay(9, 1, 2, 5, 0), 0)
	b.asksAll()
	b.must(pay(9, 1, 2, 6, pending|closeDebit), 0)
	a.asksAll()
	a.must(pay(9, 1, 2, 5, 0), 10)
	b.must(pay(9, 1, 2, 5, 0), 11)
}
