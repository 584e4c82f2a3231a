package hold_test

import (
	"math"
	"math/rand"
	"slices"
	"testing"

	"bondstore/api"
	"bondstore/books"
	"bondstore/hold"
	"bondstore/wide"
)

func TestP17_1Example(t *testing.T) {
	s := books.New()
	s.Open(api.Account{Id: wide.Of(1), Ledger: 1, Code: 1})
	s.Open(api.Account{Id: wide.Of(2), Ledger: 1, Code: 1})
	if r := hold.Do(s, wait(7, 1, 2, 10, 0, 0)); r != 0 {
		t.Errorf("Do: %d", r)
	}
	if r := hold.Do(s, end(8, 7, 4, post)); r != 0 {
		t.Errorf("Do: %d", r)
	}
	want := []api.Account{
		{Id: wide.Of(1), DebitsPosted: wide.Of(4), Ledger: 1, Code: 1, Stamp: 1},
		{Id: wide.Of(2), CreditsPosted: wide.Of(4), Ledger: 1, Code: 1, Stamp: 2},
	}
	for _, w := range want {
		if a, _ := s.Account(w.Id); a != w {
			t.Errorf("%+v, not %+v", a, w)
		}
	}
}

// shop is a state of the accounts 1 to 4 of the ledger 1 (2's debits are limited, 3's credits are), and 5 and 6 of the ledger 2. Of its transfers 10 to 12 wait (the last one balances, and closes account 4), 13 was posted by 16, 14 voided by 17, 15 has expired; 18 doesn't wait.
func shop(t *testing.T) *both {
	t.Helper()
	b := newBoth(t)
	for i, flags := range []int{0, debits, credits, 0} {
		b.opens(uint64(i+1), flags)
	}
	b.open(api.Account{Id: wide.Of(5), Ledger: 2, Code: 1})
	b.open(api.Account{Id: wide.Of(6), Ledger: 2, Code: 1})
	for _, x := range []api.Transfer{
		wait(10, 1, 2, 10, 0, 0), wait(11, 1, 2, 20, 50, linked), wait(13, 1, 2, 30, 60, 0), wait(14, 1, 2, 40, 0, 0), wait(15, 1, 2, 50, 5, 0),
		end(16, 13, 25, post), end(17, 14, 0, void), pay(18, 4, 2, 8, 0), wait(12, 2, 4, 9, 70, debitMost|closeCredit),
	} {
		b.must(x, 0)
	}
	b.mustTime(7, 1)
	return b
}

// filled is a shop in which there is room for no more.
func filled(t *testing.T) *both {
	t.Helper()
	b := shop(t)
	for id := uint64(1000); b.s.Room(); id++ {
		b.must(pay(id, 1, 2, 1, pending*int(id%2)), 0)
	}
	return b
}

// fault is a transfer, and what is wrong with it.
type fault struct {
	x    api.Transfer
	want api.Result
}

// byThemselves are transfers that end a pending one, and that something is wrong with, wherever they are to be done.
func byThemselves() []fault {
	var list []fault
	for _, flag := range []int{post, void, post | linked, void | linked} {
		x := end(9, 10, 0, flag)
		list = append(list,
			fault{but(x, func(x *api.Transfer) { x.Flags |= 256 }), 3},
			fault{but(x, func(x *api.Transfer) { x.Flags -= 256 }), 3},
			fault{but(x, func(x *api.Transfer) { x.Id = api.Num{} }), 4},
			fault{but(x, func(x *api.Transfer) { x.Id = wide.Most }), 5},
			fault{but(x, func(x *api.Transfer) { x.Flags |= post | void }), 6},
			fault{but(x, func(x *api.Transfer) { x.Stamp = 1 }), 7},
			fault{but(x, func(x *api.Transfer) { x.Born = -1 }), 7},
			fault{but(x, func(x *api.Transfer) { x.Timeout = 1 }), 17},
			fault{but(x, func(x *api.Transfer) { x.Timeout = -1 }), 17},
			fault{but(x, func(x *api.Transfer) { x.Pending = api.Num{} }), 16},
			fault{but(x, func(x *api.Transfer) { x.Ledger = -1 }), 8},
			fault{but(x, func(x *api.Transfer) { x.Ledger = 1 << 32 }), 8},
			fault{but(x, func(x *api.Transfer) { x.Code = -1 }), 9},
			fault{but(x, func(x *api.Transfer) { x.Code = 1 << 16 }), 9},
		)
		for _, other := range []int{pending, debitMost, creditMost, closeDebit, closeCredit} {
			list = append(list, fault{but(x, func(x *api.Transfer) { x.Flags |= other }), 6})
		}
	}
	return list
}

// TestP17_1ByThemselves asks for transfers that can't be done anywhere, of a state, a full one, an empty one and none.
func TestP17_1ByThemselves(t *testing.T) {
	for _, b := range []*both{newBoth(t), shop(t), filled(t)} {
		for _, f := range byThemselves() {
			b.must(f.x, f.want)
			if r := hold.Do(nil, f.x); r != f.want {
				t.Errorf("Do of no state (%+v): %d, not %d", f.x, r, f.want)
			}
			f.x.Pending, f.x.Amount = wide.Of(99), wide.Most
			if f.want != 16 {
				b.must(f.x, f.want)
			}
		}
		b.asksAll()
	}
}

// TestP17_1NoState has none, or an empty one: no pending one is there, nor an account, and nothing expires.
func TestP17_1NoState(t *testing.T) {
	b := newBoth(t)
	for _, s := range []*books.State{nil, b.s} {
		for _, f := range []fault{
			{end(1, 2, 0, post), 23},
			{end(1, 1, 0, post), 23},
			{end(1, 2, 5, void), 23},
			{end(1, 2, 5, void|linked), 23},
			{pay(1, 2, 3, 5, 0), 19},
			{wait(1, 2, 3, 5, 0, 0), 19},
			{pay(1, 2, 2, 5, 0), 14},
			{api.Transfer{}, 4},
		} {
			if r := hold.Do(s, f.x); r != f.want {
				t.Errorf("Do(%+v): %d, not %d", f.x, r, f.want)
			}
		}
	}
	for _, now := range []int{0, 5, -1, math.MaxInt, math.MinInt, 1 << 40} {
		if n := hold.Time(nil, now); n != 0 {
			t.Errorf("Time(%d): %d", now, n)
		}
		b.mustTime(now, 0)
	}
	b.asksAll()
}

// TestP17_1OthersAreMoved has transfers that end none, of all flags: they are done as layer 16 does them.
func TestP17_1OthersAreMoved(t *testing.T) {
	came := map[api.Result]int{}
	for _, b := range []*both{newBoth(t), shop(t), filled(t)} {
		for flags := -1; flags <= 256; flags++ {
			if flags >= 0 && flags&(post|void) != 0 {
				continue
			}
			for _, x := range []api.Transfer{
				pay(9, 1, 4, 5, flags), pay(9, 2, 1, 5, flags), pay(9, 4, 3, 0, flags), pay(9, 1, 2, 3, flags), pay(9, 1, 5, 5, flags), pay(10, 1, 2, 10, flags),
				but(pay(9, 1, 2, 3, flags), func(x *api.Transfer) { x.Pending = wide.Of(10) }),
				but(pay(9, 1, 4, 3, flags), func(x *api.Transfer) { x.Timeout = 1 << 30 }),
				but(pay(9, 6, 5, 3, flags), func(x *api.Transfer) { x.Ledger = 2 }),
			} {
				b.tries(func() { came[b.do(x)]++ })
			}
		}
		b.asksAll()
	}
	wantsAll(t, came, 0, 3, 6, 10, 11, 15, 17, 18, 19, 21, 30, 31, 33, 34, 35)
}

// TestP17_1Again asks again for transfers that are kept: just so, linked, or with one thing unlike.
func TestP17_1Again(t *testing.T) {
	b := shop(t)
	all := but(end(21, 11, 3, post), func(x *api.Transfer) {
		x.Debit, x.Credit, x.Ledger, x.Code = wide.Of(1), wide.Of(2), 1, 1
	})
	for _, x := range []api.Transfer{end(20, 10, 0, void), all, end(22, 12, 9, void|linked)} {
		b.must(x, 0)
		b.time(b.model.clock + 1)
		b.must(x, 10)
		b.must(but(x, func(x *api.Transfer) { x.Flags ^= linked }), 10)
		for _, change := range []func(*api.Transfer){
			func(x *api.Transfer) { x.Debit = wide.Of(3) },
			func(x *api.Transfer) { x.Debit = wide.Of(77) },
			func(x *api.Transfer) { x.Credit = wide.Of(4) },
			func(x *api.Transfer) { x.Amount = wide.Of(2) },
			func(x *api.Transfer) { x.Amount.Hi++ },
			func(x *api.Transfer) { x.Pending = wide.Of(18) },
			func(x *api.Transfer) { x.Pending = wide.Of(99) },
			func(x *api.Transfer) { x.Ledger = 2 },
			func(x *api.Transfer) { x.Code = 2 },
			func(x *api.Transfer) { x.Flags ^= post | void },
			func(x *api.Transfer) { x.Flags ^= post | void | linked },
			func(x *api.Transfer) { x.Flags &= linked; x.Pending = api.Num{}; *x = pay(x.Id.Lo, 1, 2, 3, x.Flags) },
		} {
			b.must(but(x, change), 11)
		}
	}
	for _, id := range []uint64{10, 11, 12, 13, 14, 15, 18} {
		for _, flag := range []int{post, void} {
			b.must(end(id, 11, 0, flag), 11)
			b.must(end(id, id, 0, flag), 11)
			b.must(end(id, 99, 0, flag), 11)
		}
	}
	b.asksAll()
}

// TestP17_1AgainAsAsked has transfers that name less than what is done: they are there as they were asked for, not as they are done.
func TestP17_1AgainAsAsked(t *testing.T) {
	for _, flag := range []int{post, void} {
		b := shop(t)
		x := end(20, 10, 0, flag)
		b.must(x, 0)
		k, is := b.s.Kept(wide.Of(20))
		if !is || k.Asked != x || k.Move.Amount != wide.Of(10) {
			t.Errorf("%+v, %v", k, is)
		}
		b.must(x, 10)
		b.must(of(x, wide.Of(10)), 11)
		done := k.Move
		done.Stamp, done.Born = 0, 0
		b.must(done, 11)
		b.must(but(x, func(x *api.Transfer) { x.Debit = wide.Of(1) }), 11)
		b.must(but(x, func(x *api.Transfer) { x.Credit = wide.Of(2) }), 11)
		b.must(but(x, func(x *api.Transfer) { x.Ledger = 1 }), 11)
		b.must(but(x, func(x *api.Transfer) { x.Code = 1 }), 11)
	}
}

// TestP17_1PendingNone names pending ones that aren't there.
func TestP17_1PendingNone(t *testing.T) {
	b := shop(t)
	for _, flag := range []int{post, void} {
		for _, held := range []api.Num{wide.Of(9), wide.Of(1), wide.Of(19), {Hi: 10}, {Hi: 1, Lo: 10}, wide.Most} {
			x := but(end(9, 0, 0, flag), func(x *api.Transfer) { x.Pending = held })
			b.must(x, 23)
			b.must(of(x, wide.Most), 23)
			b.must(but(x, func(x *api.Transfer) { x.Debit, x.Ledger = wide.Of(77), 7 }), 23)
		}
	}
	b.asksAll()
}

// TestP17_1PendingNot names others that don't wait, and never did.
func TestP17_1PendingNot(t *testing.T) {
	b := shop(t)
	for _, flag := range []int{post, void} {
		for _, held := range []uint64{16, 17, 18} {
			x := end(9, held, 0, flag)
			b.must(x, 24)
			b.must(of(x, wide.Most), 24)
			b.must(but(x, func(x *api.Transfer) { x.Debit, x.Ledger = wide.Of(77), 7 }), 24)
		}
	}
	b.asksAll()
}

// TestP17_1PendingOther names something that isn't the pending one's, among others that are.
func TestP17_1PendingOther(t *testing.T) {
	right := []func(*api.Transfer){
		func(x *api.Transfer) { x.Debit = wide.Of(1) },
		func(x *api.Transfer) { x.Credit = wide.Of(2) },
		func(x *api.Transfer) { x.Ledger = 1 },
		func(x *api.Transfer) { x.Code = 1 },
	}
	wrong := [][]func(*api.Transfer){
		{func(x *api.Transfer) { x.Debit = wide.Of(2) }, func(x *api.Transfer) { x.Debit = api.Num{Hi: 1, Lo: 1} }, func(x *api.Transfer) { x.Debit = wide.Most }},
		{func(x *api.Transfer) { x.Credit = wide.Of(1) }, func(x *api.Transfer) { x.Credit = api.Num{Hi: 2} }, func(x *api.Transfer) { x.Credit = wide.Of(99) }},
		{func(x *api.Transfer) { x.Ledger = 2 }, func(x *api.Transfer) { x.Ledger = math.MaxUint32 }},
		{func(x *api.Transfer) { x.Code = 2 }, func(x *api.Transfer) { x.Code = math.MaxUint16 }},
	}
	b := shop(t)
	for _, flag := range []int{post, void} {
		for named := range 16 {
			x := end(9, 10, 10, flag)
			for i, change := range right {
				if named>>i&1 == 1 {
					change(&x)
				}
			}
			b.tries(func() { b.must(x, 0) })
			for _, list := range wrong {
				for _, change := range list {
					b.must(but(x, change), 25)
					b.must(but(of(x, wide.Most), change), 25)
				}
			}
		}
		for _, held := range []uint64{13, 14, 15} {
			b.must(but(end(9, held, 0, flag), func(x *api.Transfer) { x.Code = 7 }), 25)
		}
		for several := range 15 {
			x := end(9, 10, 10, flag)
			for i, list := range wrong {
				if (several+1)>>i&1 == 1 {
					list[0](&x)
				}
			}
			b.must(x, 25)
		}
	}
	b.asksAll()
}

// TestP17_1Fates has pending ones that came to an end already, in each way.
func TestP17_1Fates(t *testing.T) {
	b := shop(t)
	for i, held := range []uint64{13, 14, 15} {
		for _, flag := range []int{post, void, post | linked, void | linked} {
			for _, amount := range []uint64{0, 1, 10 * uint64(i+3), 1000} {
				b.must(end(9, held, amount, flag), api.Result(27+i))
			}
			b.must(of(end(9, held, 0, flag), wide.Most), api.Result(27+i))
		}
	}
	b.asksAll()
}

// TestP17_1Amounts posts, and voids, by each amount about what is pending.
func TestP17_1Amounts(t *testing.T) {
	b := shop(t)
	for amount := range uint64(13) {
		b.tries(func() {
			want := api.Result(0)
			if amount > 10 {
				want = 26
			}
			b.must(end(9, 10, amount, post), want)
		})
		b.tries(func() {
			want := api.Result(26)
			if amount == 0 || amount == 10 {
				want = 0
			}
			b.must(end(9, 10, amount, void), want)
		})
	}
	for _, amount := range []api.Num{{Hi: 1}, {Hi: 1, Lo: 10}, {Hi: math.MaxUint64}, {Lo: math.MaxUint64}, wide.Most} {
		b.must(of(end(9, 10, 0, post), amount), 26)
		b.must(of(end(9, 10, 0, void), amount), 26)
	}
	b.asksAll()
}

// TestP17_1GreatAmounts has an amount that is pending, of both words.
func TestP17_1GreatAmounts(t *testing.T) {
	for _, all := range []api.Num{{Hi: 1}, {Hi: 5, Lo: 5}, {Hi: math.MaxUint64, Lo: math.MaxUint64 - 1}, wide.Most} {
		b := newBoth(t)
		b.opens(1, 0)
		b.opens(2, 0)
		b.must(of(wait(10, 1, 2, 0, 3, 0), all), 0)
		for _, n := range []api.Num{{}, wide.Of(1), wide.Of(6), {Lo: math.MaxUint64}, {Hi: 1}, {Hi: 1, Lo: 1}, {Hi: 5, Lo: 4}, {Hi: 5, Lo: 5}, {Hi: 5, Lo: 6}, {Hi: 6}, {Hi: 4, Lo: 9}, {Hi: math.MaxUint64}, {Hi: math.MaxUint64, Lo: math.MaxUint64 - 1}, wide.Most} {
			b.tries(func() { b.do(of(end(9, 10, 0, post), n)) })
			b.tries(func() { b.do(of(end(9, 10, 0, void), n)) })
		}
		b.tries(func() { b.mustTime(3, 1) })
		b.asksAll()
	}
}

// TestP17_1Balancing has pending ones of which less waits than was asked for: what waits counts.
func TestP17_1Balancing(t *testing.T) {
	for _, asked := range []uint64{0, 9} {
		b := newBoth(t)
		b.opens(1, 0)
		b.opens(2, 0)
		b.must(pay(1, 1, 2, 5, 0), 0)
		b.must(wait(10, 2, 1, asked, 4, debitMost), 0)
		for n := range uint64(11) {
			wants := [2]api.Result{0, 26}
			if n > 5 {
				wants[0] = 26
			}
			if n == 0 || n == 5 {
				wants[1] = 0
			}
			b.tries(func() { b.must(end(9, 10, n, post), wants[0]) })
			b.tries(func() { b.must(end(9, 10, n, void), wants[1]) })
		}
		b.tries(func() { b.mustTime(4, 1) })
		b.must(end(9, 10, 0, post), 0)
		if k, _ := b.s.Kept(wide.Of(9)); k.Move.Amount != wide.Of(5) {
			t.Errorf("%+v", k)
		}
	}
}

// TestP17_1Closed has pending ones that close none, one or both of their accounts, which others close, too.
func TestP17_1Closed(t *testing.T) {
	came := map[api.Result]int{}
	for closes := range 4 {
		own := closes * closeDebit
		for others := range 16 {
			b := newBoth(t)
			for id := range uint64(4) {
				b.opens(id+1, 0)
			}
			b.must(wait(9, 1, 2, 4, 0, 0), 0)
			b.must(wait(10, 1, 2, 10, 6, own), 0)
			// Each closes one of the two accounts, where that may still be moved: as the debited, and as the credited one.
			for i, x := range []api.Transfer{wait(11, 1, 3, 1, 0, closeDebit), wait(12, 4, 1, 1, 0, closeCredit), wait(13, 2, 3, 1, 0, closeDebit), wait(14, 4, 2, 1, 0, closeCredit)} {
				if others>>i&1 == 1 {
					b.do(x)
				}
			}
			for _, held := range []uint64{9, 10, 11, 12, 13, 14} {
				for _, amount := range []uint64{0, 1} {
					b.tries(func() { came[b.do(end(20, held, amount, post))]++ })
				}
				b.tries(func() { came[b.do(end(20, held, 0, void))]++ })
			}
			b.tries(func() { b.mustTime(6, 1) })
			b.asksAll()
		}
	}
	wantsAll(t, came, 0, 23, 30, 31)
}

// TestP17_1Closes has a pending one that closes its accounts: posted they stay so, voided and expired they are open again.
func TestP17_1Closes(t *testing.T) {
	for closes := range 4 {
		for _, flags := range []int{0, debits, credits} {
			b := newBoth(t)
			b.opens(1, flags&debits)
			b.opens(2, flags&credits)
			b.opens(3, 0)
			b.must(pay(7, 3, 1, 50, 0), 0)
			b.must(pay(8, 2, 3, 50, 0), 0)
			b.must(wait(10, 1, 2, 10, 5, closes*closeDebit), 0)
			was := [2]int{b.account(1).Flags, b.account(2).Flags}
			asks := func(how string, want [2]int) {
				t.Helper()
				if got := [2]int{b.account(1).Flags, b.account(2).Flags}; got != want {
					t.Errorf("%s: flags %v, not %v", how, got, want)
				}
			}
			open := [2]int{flags & debits, flags & credits}
			for _, amount := range []uint64{0, 4, 10} {
				b.tries(func() { b.must(end(20, 10, amount, post), 0); b.time(100); asks("posted", was) })
			}
			b.tries(func() { b.must(end(20, 10, 0, void), 0); asks("voided", open) })
			b.tries(func() { b.mustTime(4, 0); asks("not yet", was); b.mustTime(5, 1); asks("expired", open) })
			b.asksAll()
		}
	}
}

// TestP17_1OpenAgain has accounts that were closed for a while: what waits from ahead of that can be posted again.
func TestP17_1OpenAgain(t *testing.T) {
	b := newBoth(t)
	for id := range uint64(3) {
		b.opens(id+1, 0)
	}
	b.must(wait(10, 1, 2, 10, 0, 0), 0)
	b.must(wait(11, 3, 1, 1, 5, closeCredit), 0)
	b.must(end(20, 10, 0, post), 30)
	b.tries(func() { b.must(end(20, 10, 0, void), 0) })
	b.mustTime(5, 1)
	b.tries(func() { b.must(end(20, 10, 0, post), 0) })
	b.must(wait(12, 2, 3, 1, 0, closeDebit), 0)
	b.must(end(20, 10, 0, post), 31)
	b.must(end(21, 12, 0, void), 0)
	b.must(wait(13, 2, 3, 1, 0, closeDebit|closeCredit), 0)
	b.must(end(22, 13, 0, post), 0)
	b.must(end(20, 10, 0, post), 31)
	b.must(wait(14, 1, 3, 1, 0, 0), 31)
	b.must(end(20, 10, 0, void), 0)
	b.asksAll()
}

// TestP17_1Full has room for the last one that ends another, and for none behind it; what ends by itself needs none.
func TestP17_1Full(t *testing.T) {
	b := shop(t)
	for id := uint64(1000); len(b.model.kept) < 95; id++ {
		b.must(pay(id, 1, 2, 1, 0), 0)
	}
	for _, flag := range []int{post, void} {
		b.tries(func() {
			b.must(end(20, 10, 0, flag), 0)
			for _, x := range []api.Transfer{end(21, 11, 0, post), end(21, 11, 0, void), end(21, 11, 20, void|linked), end(21, 12, 3, post)} {
				b.must(x, 35)
			}
			for _, f := range []fault{
				{end(20, 10, 0, flag), 10},
				{end(20, 10, 0, flag|linked), 10},
				{end(20, 11, 0, flag), 11},
				{end(21, 99, 0, post), 23},
				{end(21, 18, 0, post), 24},
				{but(end(21, 11, 0, void), func(x *api.Transfer) { x.Code = 2 }), 25},
				{end(21, 15, 0, void), 29},
				{end(21, 11, 21, post), 26},
				{end(21, 11, 19, void), 26},
				{pay(21, 1, 2, 1, 0), 35},
			} {
				b.must(f.x, f.want)
			}
			b.mustTime(50, 1)
			b.mustTime(1<<40, 1)
			b.asksAll()
		})
	}
	b.must(wait(21, 1, 2, 1, 0, closeCredit), 0)
	b.must(end(22, 21, 0, post), 35)
	b.must(end(22, 21, 0, void), 35)
	b.asksAll()
}

// TestP17_1Keeps has transfers that end others, of all that they may name: as they were asked for, as they are done, with the clock as Born.
func TestP17_1Keeps(t *testing.T) {
	b := shop(t)
	b.mustTime(9, 0)
	named := but(end(20, 10, 4, post|linked), func(x *api.Transfer) { x.Debit, x.Code = wide.Of(1), 1 })
	b.must(named, 0)
	b.mustTime(11, 0)
	b.must(end(21, 11, 0, void), 0)
	b.must(end(22, 12, 0, post|linked), 0)
	want := []api.Kept{
		{Asked: named, Move: pay(20, 1, 2, 4, post|linked)},
		{Asked: end(21, 11, 0, void), Move: pay(21, 1, 2, 20, void)},
		{Asked: end(22, 12, 0, post|linked), Move: pay(22, 2, 4, 9, post|linked)},
	}
	for i, w := range want {
		w.Move.Pending = wide.Of(uint64(10 + i))
		w.Move.Stamp, w.Move.Born = 16+i, []int{9, 11, 11}[i]
		if got, is := b.s.Kept(wide.Of(uint64(20 + i))); got != w || !is {
			t.Errorf("%+v, %v, not %+v", got, is, w)
		}
	}
	for i, fate := range []int{2, 3, 2, 2, 3, 4, 0, 0, 0, 0, 0, 0} {
		id := uint64(10 + i)
		if got := b.fate(id); got != fate {
			t.Errorf("fate of %d: %d, not %d", id, got, fate)
		}
	}
	b.asksAll()
}

// TestP17_1OfLedgers ends pending ones whose ledger, code and accounts are the greatest and the least.
func TestP17_1OfLedgers(t *testing.T) {
	b := newBoth(t)
	n := uint64(0)
	for _, ledger := range []int{1, math.MaxUint32} {
		for _, code := range []int{1, math.MaxUint16} {
			n += 4
			least, most := wide.Of(n), api.Num{Hi: math.MaxUint64, Lo: math.MaxUint64 - n}
			b.open(api.Account{Id: least, Ledger: ledger, Code: code})
			b.open(api.Account{Id: most, Ledger: ledger, Code: code})
			x := api.Transfer{Id: most, Debit: most, Credit: least, Amount: wide.Of(9), Ledger: ledger, Code: code, Flags: pending}
			b.must(x, 0)
			y := but(x, func(x *api.Transfer) { x.Id, x.Pending, x.Flags = wide.Of(n), most, post })
			for _, change := range []func(*api.Transfer){
				func(x *api.Transfer) { x.Ledger = ledger ^ 2 },
				func(x *api.Transfer) { x.Code = code ^ 2 },
				func(x *api.Transfer) { x.Debit.Hi = 0 },
				func(x *api.Transfer) { x.Credit.Hi = 7 },
			} {
				b.must(but(y, change), 25)
			}
			b.must(y, 0)
			b.must(but(x, func(x *api.Transfer) { x.Id = wide.Of(n + 1) }), 0)
			b.must(api.Transfer{Id: wide.Of(n + 2), Pending: wide.Of(n + 1), Ledger: ledger, Flags: void}, 0)
		}
	}
	b.asksAll()
}

// TestP17_1TimeGoesOn has times of all kinds: none that is earlier, nor one beyond the greatest, is taken.
func TestP17_1TimeGoesOn(t *testing.T) {
	b := newBoth(t)
	for id := range uint64(3) {
		b.opens(id+1, 0)
	}
	b.mustTime(100, 0)
	for i, timeout := range []int{5, 3, 5, 0, 4, 1 << 30} {
		b.must(wait(uint64(10+i), 1, 2, 1<<i, timeout, 0), 0)
	}
	for _, step := range [][2]int{{99, 0}, {100, 0}, {0, 0}, {-1, 0}, {102, 0}, {1<<40 + 1, 0}, {math.MaxInt, 0}, {math.MinInt, 0}, {103, 1}, {103, 0}, {106, 3}, {104, 0}, {100 + 1<<30 - 1, 0}, {100 + 1<<30, 1}, {1 << 40, 0}, {1 << 40, 0}} {
		b.mustTime(step[0], step[1])
	}
	for i, fate := range []int{4, 4, 4, 1, 4, 4} {
		if got := b.fate(uint64(10 + i)); got != fate {
			t.Errorf("fate of %d: %d, not %d", 10+i, got, fate)
		}
	}
	b.asksAll()
}

// TestP17_1TimeOfMany has all expire at once, of unlike accounts.
func TestP17_1TimeOfMany(t *testing.T) {
	b := newBoth(t)
	for id := range uint64(32) {
		b.opens(id+1, 0)
	}
	for i := range uint64(96) {
		flags := 0
		switch i % 19 {
		case 3:
			flags = linked
		case 7:
			flags = closeDebit
		case 16:
			flags = closeCredit
		}
		b.do(wait(100+i, 1+i%32, 1+(i*7+i%32+1)%32, 1+i, 1+int(i*i%97), flags))
	}
	n := len(b.model.kept)
	b.tries(func() { b.mustTime(200, n) })
	all := 0
	for now := range 100 {
		all += b.time(now)
	}
	if all != n || n < 20 {
		t.Errorf("%d expired, not %d", all, n)
	}
	b.asksAll()
}

// TestP17_1TimeOfDue has one that is due already, for the clock was set by layer 15: it expires, whatever time is told.
func TestP17_1TimeOfDue(t *testing.T) {
	for _, now := range []int{-1, 0, 7, 8, 9, math.MaxInt} {
		b := newBoth(t)
		b.opens(1, 0)
		b.opens(2, 0)
		b.must(wait(10, 1, 2, 10, 7, closeDebit), 0)
		b.must(wait(11, 2, 1, 10, 7, 0), 31)
		b.s.Time(8)
		b.model.clock = 8
		b.mustTime(now, 1)
		b.asksAll()
	}
}

// TestP17_1RefusedChangesNothing asks the log of changes, too, whether anything was done.
func TestP17_1RefusedChangesNothing(t *testing.T) {
	b := filled(t)
	mark := b.s.Mark()
	for _, f := range append(byThemselves(), fault{end(9, 10, 0, post), 35}, fault{end(9, 10, 0, void), 35}, fault{end(9, 13, 0, post), 27}, fault{end(10, 10, 0, post), 11}, fault{end(9, 10, 11, post), 26}) {
		b.must(f.x, f.want)
	}
	b.mustTime(7, 0)
	if got := b.s.Mark(); got != mark {
		t.Errorf("%d changes, not %d", got, mark)
	}
}

// TestP17_1TakenBack has endings that are taken back as a whole, and done again.
func TestP17_1TakenBack(t *testing.T) {
	b := shop(t)
	list := []func(){
		func() { b.must(end(20, 10, 4, post), 0) },
		func() { b.must(end(21, 12, 0, void), 0) },
		func() { b.must(wait(22, 2, 1, 0, 3, debitMost|closeDebit|closeCredit), 0) },
		func() { b.mustTime(10, 1) },
		func() { b.must(wait(23, 1, 4, 5, 90, closeDebit), 0) },
		func() { b.must(end(24, 23, 0, post|linked), 0) },
		func() { b.mustTime(57, 1) },
	}
	for range 2 {
		b.tries(func() {
			for i := range list {
				b.tries(func() {
					for _, do := range list[i:] {
						do()
					}
				})
				b.asksAll()
				list[i]()
			}
		})
		b.asksAll()
	}
	list[0]()
	b.s.Clear()
	b.s.Back(0)
	b.asksAll()
}

// TestP17_1StatesKnowNothingOfOneAnother ends one pending transfer over two states.
func TestP17_1StatesKnowNothingOfOneAnother(t *testing.T) {
	a, b := shop(t), shop(t)
	a.must(end(20, 10, 0, post), 0)
	b.asksAll()
	b.must(end(20, 10, 0, void), 0)
	a.asksAll()
	a.mustTime(60, 1)
	b.asksAll()
	b.must(end(21, 11, 3, post), 0)
	a.must(end(21, 11, 3, post), 29)
}

// TestP17_1NeverWaited has a kept transfer that is MovePending, but doesn't wait, as no call of this layer leaves it: nothing is taken from what waits.
func TestP17_1NeverWaited(t *testing.T) {
	b := shop(t)
	x := wait(30, 1, 2, 5, 0, 0)
	b.s.Keep(x, x, false)
	was := b.s.Accounts()
	for _, flag := range []int{post, void} {
		if r := hold.Do(b.s, end(31, 30, 0, flag)); r != 24 {
			t.Errorf("Do: %d", r)
		}
	}
	for i, a := range b.s.Accounts() {
		if a != was[i] {
			t.Errorf("%+v, not %+v", a, was[i])
		}
	}
}

// TestP17_1AnyState loads states that no calls of this layer leave, whose accounts may be missing, and whose balances aren't those of their transfers: all calls end, and the same ones expire.
func TestP17_1AnyState(t *testing.T) {
	c := chances{rand.New(rand.NewSource(5)), 30, false}
	for range 3000 {
		m := model{clock: c.Intn(9)}
		for id := range uint64(4) {
			m.stamp++
			if c.Intn(3) > 0 {
				m.made = append(m.made, api.Account{Id: wide.Of(id), DebitsPending: c.amount(), CreditsPosted: c.amount(), Ledger: c.Intn(2), Flags: c.Intn(16), Stamp: m.stamp})
			}
		}
		for id := range uint64(6) {
			x := wait(id, c.Uint64()%4, c.Uint64()%4, c.Uint64()%30, c.Intn(12)-3, c.Intn(256))
			m.adds(x, c.Intn(5))
			m.kept[id].Move.Born = c.Intn(9) - 3
		}
		s, err := books.Load(m.made, m.kept, m.clock, m.stamp)
		if err != api.OK {
			t.Fatalf("Load: %d", err)
		}
		for range 4 {
			now := c.Intn(12)
			if got, want := hold.Time(s, now), m.time(now); got != want {
				t.Fatalf("Time(%d) of %+v: %d, not %d", now, m, got, want)
			}
			if got := s.Keeps(); !slices.Equal(got, m.kept) {
				t.Fatalf("Keeps: %+v, not %+v", got, m.kept)
			}
			hold.Do(s, c.ender(s.Keeps()))
			m.kept, m.stamp = s.Keeps(), s.Stamp()
		}
	}
}
