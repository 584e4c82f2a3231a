package chain_test

import (
	"math/rand"
	"slices"
	"testing"

	"bondstore/api"
	"bondstore/chain"
	"bondstore/hold"
	"bondstore/wide"
)

// chances picks things at random, alike in each run.
type chances struct {
	*rand.Rand
	ids int // how many names of transfers there are
}

func newChances(seed int64, ids int) chances { return chances{rand.New(rand.NewSource(seed)), ids} }

func (c chances) name() api.Num { return wide.Of(uint64(1 + c.Intn(c.ids))) }

func (c chances) amount() api.Num { return wide.Of(uint64(1 + c.Intn(20))) }

// link is the flag of one that is of one chain with the next one, more often than not.
func (c chances) link() int { return (c.Intn(5) + 2) / 4 }

// length is how many items a batch has.
func (c chances) length() int { return []int{0, 1, 2, 3, 4, 5, 6, 8, 8, 12}[c.Intn(10)] }

// account is one; often it can be made.
func (c chances) account() api.Account {
	a := api.Account{Id: wide.Of(uint64(1 + c.Intn(40))), Ledger: 1 + c.Intn(8)/7, Code: 1, Flags: []int{0, 0, 0, debits, credits}[c.Intn(5)] | c.link()}
	switch c.Intn(30) {
	case 0:
		a.Flags |= 1 << c.Intn(5)
	case 1:
		a.Id = []api.Num{{}, wide.Most}[c.Intn(2)]
	case 2:
		a.Ledger, a.Code = c.Intn(2), c.Intn(2)
	case 3:
		a.Stamp, a.DebitsPosted = c.Intn(2), wide.Of(uint64(c.Intn(2)))
	}
	return a
}

func (c chances) accounts() []api.Account {
	list := make([]api.Account, c.length())
	for i := range list {
		list[i] = c.account()
	}
	return list
}

// transfer is one that ends a pending one, or not; often it can be done.
func (c chances) transfer(kept []api.Kept) api.Transfer {
	x := api.Transfer{Id: c.name(), Flags: c.link()}
	if len(kept) > 0 && c.Intn(3) == 0 {
		held := kept[c.Intn(len(kept))].Move
		x.Pending = held.Id
		x.Flags |= []int{post, void}[c.Intn(2)]
		switch c.Intn(9) {
		case 0:
			x.Amount = c.amount()
		case 1, 2, 3:
			x.Amount = held.Amount
		}
	} else {
		x.Debit, x.Credit = wide.Of(uint64(1+c.Intn(12))), wide.Of(uint64(1+c.Intn(12)))
		x.Amount, x.Ledger, x.Code = c.amount(), 1, 1
		x.Flags |= []int{0, pending, pending, debitMost, creditMost, debitMost | pending}[c.Intn(6)]
		if x.Flags&pending != 0 {
			x.Timeout = c.Intn(9)
			x.Flags |= c.Intn(8) / 7 * closeDebit * (1 + c.Intn(3))
		}
	}
	switch c.Intn(40) {
	case 0:
		x.Flags |= 1 << c.Intn(9)
	case 1:
		x.Id = []api.Num{{}, wide.Most}[c.Intn(2)]
	case 2:
		x.Amount = api.Num{}
	case 3:
		x.Pending = c.name()
	}
	return x
}

func (c chances) transfers(kept []api.Kept) []api.Transfer {
	list := make([]api.Transfer, c.length())
	for i := range list {
		list[i] = c.transfer(kept)
		// Those behind it may end it.
		if list[i].Flags&pending != 0 {
			kept = append(kept, api.Kept{Move: list[i]})
		}
	}
	return list
}

// step lets time go on, or does a batch, and answers what came of each.
func (c chances) step(b *both) []api.Result {
	b.t.Helper()
	switch c.Intn(6) {
	case 0:
		b.time(b.model.clock + c.Intn(5) - 1)
		return nil
	case 1:
		return b.accounts(c.accounts())
	case 2:
		return []api.Result{b.open(c.account())}
	}
	return b.transfers(c.transfers(b.s.Keeps()))
}

// TestP18_1EveryOrder does batches in chance orders, up to full states and beyond.
func TestP18_1EveryOrder(t *testing.T) {
	came := map[api.Result]int{}
	for round := range 40 {
		c := newChances(int64(round), []int{20, 90, 4000}[round%3])
		b := newBoth(t)
		for range 120 {
			for _, r := range c.step(b) {
				came[r]++
			}
		}
		b.asksAll()
	}
	for _, r := range []api.Result{0, 1, 2, 3, 4, 5, 6, 7, 8, 9, 10, 11, 14, 15, 16, 18, 19, 20, 21, 22, 23, 24, 26, 27, 28, 29, 30, 31, 33, 34, 35} {
		if came[r] == 0 {
			t.Errorf("never %d: %v", r, came)
		}
	}
}

// TestP18_1Loaded loads states anew of what they tell, and goes on with both.
func TestP18_1Loaded(t *testing.T) {
	c := newChances(7, 200)
	for range 20 {
		b := newBoth(t)
		for range 25 {
			c.step(b)
		}
		anew := b.loaded()
		for range 25 {
			transfers, accounts := c.transfers(b.s.Keeps()), c.accounts()
			if got, want := anew.transfers(transfers), b.transfers(transfers); !slices.Equal(got, want) {
				t.Fatalf("Transfers(%+v): %v of the loaded state, not %v", transfers, got, want)
			}
			if got, want := anew.accounts(accounts), b.accounts(accounts); !slices.Equal(got, want) {
				t.Fatalf("Accounts(%+v): %v of the loaded state, not %v", accounts, got, want)
			}
		}
		anew.asksAll()
	}
}

// closedChain makes a row of flags that of one chain with an end.
func closedChain(n int, flags func(int) *int) {
	for i := range n {
		*flags(i) |= 1
	}
	if n > 0 {
		*flags(n - 1) &^= 1
	}
}

// wholeOrNone asks whether a chain has the end that its items have alone, one behind the other: they are done in a state of their own.
func (b *both) wholeOrNone(what any, n int, one func(m *both, i int) api.Result, all func() []api.Result) bool {
	b.t.Helper()
	alone := b.loaded()
	was := modelOf(b.s)
	failed := -1
	for i := range n {
		if one(alone, i) != 0 {
			failed = i
			break
		}
	}
	got := all()
	if len(got) != n {
		b.t.Fatalf("%+v: %v", what, got)
	}
	for i, r := range got {
		if failed < 0 && r != 0 || failed >= 0 && (r == 0 || (r == 1) != (i != failed)) {
			b.t.Fatalf("%+v: %v, and alone %d fails", what, got, failed)
		}
	}
	want := was
	if failed < 0 {
		want = modelOf(alone.s)
	}
	if now := modelOf(b.s); !now.is(want) {
		b.t.Fatalf("%+v: %v, and %+v, not %+v", what, got, now, want)
	}
	b.model = modelOf(b.s)
	return failed < 0
}

// accountsWholeOrNone makes accounts as one chain, and answers whether that was done.
func (b *both) accountsWholeOrNone(list []api.Account) bool {
	b.t.Helper()
	closedChain(len(list), func(i int) *int { return &list[i].Flags })
	return b.wholeOrNone(list, len(list), func(m *both, i int) api.Result { return chain.Open(m.s, list[i]) }, func() []api.Result { return chain.Accounts(b.s, list) })
}

// transfersWholeOrNone does transfers as one chain, and answers whether that was done.
func (b *both) transfersWholeOrNone(list []api.Transfer) bool {
	b.t.Helper()
	closedChain(len(list), func(i int) *int { return &list[i].Flags })
	return b.wholeOrNone(list, len(list), func(m *both, i int) api.Result { return hold.Do(m.s, list[i]) }, func() []api.Result { return chain.Transfers(b.s, list) })
}

// TestP18_2EachChainOfAccounts makes each chain of up to four accounts of a few, of which some can't be made alone, and others not behind one another.
func TestP18_2EachChainOfAccounts(t *testing.T) {
	few := []api.Account{someone(1, 0), someone(2, debits), someone(2, credits), someone(3, 0), someone(4, 0), someone(0, 0)}
	// There is room for two more.
	b := newBoth(t)
	for id := range uint64(29) {
		b.mustOpen(someone(1000+id, 0), 0)
	}
	b.mustOpen(someone(3, 0), 0)
	done := 0
	var each func(list []api.Account)
	each = func(list []api.Account) {
		b.tries(func() {
			if b.accountsWholeOrNone(slices.Clone(list)) {
				done++
			}
		})
		if len(list) == 4 {
			return
		}
		for _, a := range few {
			each(append(list[:len(list):len(list)], a))
		}
	}
	each(nil)
	if done < 10 || done > 100 {
		t.Errorf("%d were done", done)
	}
}

// TestP18_2EachChainOfTransfers does each chain of up to four transfers of a few that hang on one another.
func TestP18_2EachChainOfTransfers(t *testing.T) {
	few := []api.Transfer{
		wait(20, 1, 2, 5, 0, closeDebit), end(21, 20, 0, void), end(22, 20, 3, post), pay(23, 2, 1, 1, 0), pay(24, 1, 3, 4, 0), pay(25, 3, 2, 4, 0), end(26, 10, 0, post), pay(27, 2, 1, 0, 0),
	}
	b := shop(t)
	done := 0
	var each func(list []api.Transfer)
	each = func(list []api.Transfer) {
		b.tries(func() {
			if b.transfersWholeOrNone(slices.Clone(list)) {
				done++
			}
		})
		if len(list) == 4 {
			return
		}
		for _, x := range few {
			each(append(list[:len(list):len(list)], x))
		}
	}
	each(nil)
	if done < 50 {
		t.Errorf("%d were done", done)
	}
}

// TestP18_2ManyChains does chains in chance orders, and lets time go on between them.
func TestP18_2ManyChains(t *testing.T) {
	c := newChances(11, 4000)
	done, failed := 0, 0
	for range 60 {
		b := newBoth(t)
		for id := range uint64(12) {
			b.mustOpen(someone(id+1, []int{0, 0, debits, credits}[id%4]), 0)
		}
		for range 40 {
			is := false
			switch c.Intn(4) {
			case 0:
				is = b.accountsWholeOrNone(c.accounts())
			case 1:
				hold.Time(b.s, b.s.Clock()+c.Intn(4))
				b.model = modelOf(b.s)
				continue
			default:
				is = b.transfersWholeOrNone(c.transfers(b.s.Keeps()))
			}
			if is {
				done++
			} else {
				failed++
			}
		}
		b.asksAll()
	}
	if done < 200 || failed < 200 {
		t.Errorf("%d chains were done, %d failed", done, failed)
	}
}

// TestP18_2WithoutAnEnd has chains without an end, whose items would all be right: nothing happens, also of those that are wrong.
func TestP18_2WithoutAnEnd(t *testing.T) {
	b := shop(t)
	for length := 1; length <= 9; length++ {
		accounts, transfers := make([]api.Account, length), make([]api.Transfer, length)
		for i := range length {
			accounts[i] = someone(uint64(100+i), 1)
			transfers[i] = pay(uint64(100+i), 1, 2, 1, 1)
		}
		want := append(slices.Repeat([]api.Result{1}, length-1), 2)
		for wrong := -1; wrong < length; wrong++ {
			if wrong >= 0 {
				accounts[wrong].Ledger, transfers[wrong].Ledger = 0, 0
			}
			b.mustAccounts(accounts, want...)
			b.mustTransfers(transfers, want...)
			// A chain ahead of it has its own end.
			b.tries(func() {
				b.mustTransfers(append([]api.Transfer{pay(50, 1, 2, 1, 1), pay(51, 1, 2, 1, 0)}, transfers...), append([]api.Result{0, 0}, want...)...)
				b.mustAccounts(append([]api.Account{someone(50, 1), someone(50, 0), someone(50, 0)}, accounts...), append([]api.Result{1, 10, 0}, want...)...)
			})
		}
	}
	b.asksAll(50, 51, 100)
}
