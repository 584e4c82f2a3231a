package chain_test

import (
	"math"
	"slices"
	"testing"

	"bondstore/api"
	"bondstore/books"
	"bondstore/chain"
	"bondstore/hold"
	"bondstore/wide"
)

func TestP18_1Example(t *testing.T) {
	s := books.New()
	for id := range uint64(2) {
		if r := chain.Open(s, api.Account{Id: wide.Of(id + 1), Ledger: 1, Code: 1}); r != 0 {
			t.Errorf("Open: %d", r)
		}
	}
	first := api.Transfer{Id: wide.Of(7), Debit: wide.Of(1), Credit: wide.Of(2), Amount: wide.Of(5), Ledger: 1, Code: 1, Flags: 1}
	second := api.Transfer{Id: wide.Of(8), Debit: wide.Of(1), Credit: wide.Of(2), Ledger: 1, Code: 1}
	if got := chain.Transfers(s, []api.Transfer{first, second}); !slices.Equal(got, []api.Result{1, 18}) {
		t.Errorf("Transfers: %v", got)
	}
	if got := s.Accounts(); len(got) != 2 || got[0] != (api.Account{Id: wide.Of(1), Ledger: 1, Code: 1, Stamp: 1}) || got[1] != (api.Account{Id: wide.Of(2), Ledger: 1, Code: 1, Stamp: 2}) {
		t.Errorf("Accounts: %+v", got)
	}
	if got := s.Keeps(); len(got) != 0 || s.Stamp() != 2 {
		t.Errorf("Keeps: %+v, stamp %d", got, s.Stamp())
	}
	second.Amount = wide.Of(4)
	if got := chain.Transfers(s, []api.Transfer{first, second}); !slices.Equal(got, []api.Result{0, 0}) {
		t.Errorf("Transfers: %v", got)
	}
	if a, _ := s.Account(wide.Of(1)); a.DebitsPosted != wide.Of(9) || len(s.Keeps()) != 2 || s.Stamp() != 4 {
		t.Errorf("%+v, %+v, stamp %d", a, s.Keeps(), s.Stamp())
	}
}

// fault is an account, and what is wrong with it.
type fault struct {
	a    api.Account
	want api.Result
}

// byThemselves are accounts that can't be made anywhere.
func byThemselves() []fault {
	var list []fault
	for _, flags := range []int{0, linked, debits, credits | linked} {
		a := someone(9, flags)
		list = append(list,
			fault{but(a, func(a *api.Account) { a.Flags |= closed }), 3},
			fault{but(a, func(a *api.Account) { a.Flags |= 16 }), 3},
			fault{but(a, func(a *api.Account) { a.Flags -= 16 }), 3},
			fault{but(a, func(a *api.Account) { a.Id = api.Num{} }), 4},
			fault{but(a, func(a *api.Account) { a.Id = wide.Most }), 5},
			fault{but(a, func(a *api.Account) { a.Flags |= debits | credits }), 6},
			fault{but(a, func(a *api.Account) { a.DebitsPending = wide.Of(1) }), 7},
			fault{but(a, func(a *api.Account) { a.CreditsPosted.Hi = 1 }), 7},
			fault{but(a, func(a *api.Account) { a.Stamp = 1 }), 7},
			fault{but(a, func(a *api.Account) { a.Ledger = 0 }), 8},
			fault{but(a, func(a *api.Account) { a.Ledger = 1 << 32 }), 8},
			fault{but(a, func(a *api.Account) { a.Code = 0 }), 9},
			fault{but(a, func(a *api.Account) { a.Code = 1 << 16 }), 9},
		)
	}
	return list
}

// TestP18_1OpenByThemselves asks for accounts that can't be made anywhere, of no state, an empty one and others, alone and as lists.
func TestP18_1OpenByThemselves(t *testing.T) {
	for _, b := range []*both{newBoth(t), shop(t), crowd(t)} {
		for _, f := range byThemselves() {
			b.mustOpen(f.a, f.want)
			if r := chain.Open(nil, f.a); r != f.want {
				t.Errorf("Open of no state (%+v): %d, not %d", f.a, r, f.want)
			}
			if f.a.Flags&1 == 1 {
				b.mustAccounts([]api.Account{f.a}, 2)
				b.mustAccounts([]api.Account{f.a, {}}, f.want, 1)
			} else {
				b.mustAccounts([]api.Account{f.a}, f.want)
			}
			// Something is wrong with it, too, where one of its name is there.
			if f.want != 4 && f.want != 5 {
				f.a.Id = wide.Of(1)
				b.mustOpen(f.a, f.want)
			}
		}
		b.asksAll(9)
	}
}

// TestP18_1OpenIsThere makes accounts of all flags that may be asked for: all are there but that they are linked.
func TestP18_1OpenIsThere(t *testing.T) {
	for _, flags := range []int{0, linked, debits, debits | linked, credits, credits | linked} {
		for _, id := range []api.Num{wide.Of(1), {Hi: 1}, {Lo: math.MaxUint64}, {Hi: math.MaxUint64, Lo: math.MaxUint64 - 1}} {
			b := newBoth(t)
			b.mustTime(5, 0)
			b.mustOpen(someone(77, 0), 0)
			a := api.Account{Id: id, Ledger: math.MaxUint32, Code: math.MaxUint16, Flags: flags}
			want := api.Account{Id: id, Ledger: math.MaxUint32, Code: math.MaxUint16, Flags: flags &^ 1, Stamp: 2}
			is := func() {
				if got, there := b.s.Account(id); got != want || !there || b.s.Stamp() != 2 || b.s.Clock() != 5 {
					t.Errorf("%+v, %v, stamp %d, clock %d, not %+v", got, there, b.s.Stamp(), b.s.Clock(), want)
				}
				b.asksAll()
			}
			b.tries(func() { b.mustOpen(a, 0); is() })
			b.tries(func() {
				if flags&1 == 1 {
					b.mustAccounts([]api.Account{a, someone(78, 0)}, 0, 0)
					want := api.Account{Id: wide.Of(78), Ledger: 1, Code: 1, Stamp: 3}
					if got, there := b.s.Account(wide.Of(78)); got != want || !there {
						t.Errorf("%+v, %v", got, there)
					}
					return
				}
				b.mustAccounts([]api.Account{a}, 0)
				is()
			})
		}
	}
}

// TestP18_1OpenAgain asks again for accounts that are there, and have been debited, credited or closed since then: just so, linked, or with one thing unlike.
func TestP18_1OpenAgain(t *testing.T) {
	for _, b := range []*both{shop(t), crowd(t)} {
		for id, flags := range []int{1: 0, 2: debits, 3: credits, 4: 0} {
			if id == 0 {
				continue
			}
			for _, flags := range []int{flags, flags | linked} {
				a := someone(uint64(id), flags)
				b.mustOpen(a, 10)
				b.mustOpen(but(a, func(a *api.Account) { a.Ledger = 2 }), 11)
				b.mustOpen(but(a, func(a *api.Account) { a.Code = 2 }), 11)
				b.mustOpen(but(a, func(a *api.Account) { a.Flags = flags&1 | (flags&6+2)%6 }), 11)
				b.mustOpen(but(a, func(a *api.Account) { a.Flags |= closed }), 3)
			}
			b.mustAccounts([]api.Account{someone(uint64(id), flags)}, 10)
			b.mustAccounts([]api.Account{someone(uint64(id), flags|linked), someone(9, 0)}, 10, 1)
		}
		b.asksAll(9)
	}
	b := crowd(t)
	if a, _ := b.s.Account(wide.Of(4)); a.Flags&closed == 0 || a.CreditsPending != wide.Of(9) {
		t.Errorf("%+v", a)
	}
}

// TestP18_1OpenFull makes accounts up to the last room, and beyond it.
func TestP18_1OpenFull(t *testing.T) {
	b := newBoth(t)
	for id := range uint64(32) {
		b.mustOpen(someone(id+1, int(id%2)), 0)
	}
	for _, id := range []uint64{33, 100} {
		b.mustOpen(someone(id, 0), 35)
		b.mustOpen(someone(id, linked|debits), 35)
		b.mustAccounts([]api.Account{someone(id, 0), someone(id+1, 0)}, 35, 35)
		b.mustAccounts([]api.Account{someone(id, linked), someone(id+1, 0)}, 35, 1)
	}
	for id := range uint64(32) {
		b.mustOpen(someone(id+1, 0), 10)
		b.mustOpen(someone(id+1, debits), 11)
	}
	b.mustOpen(api.Account{Id: wide.Of(33), Ledger: 1}, 9)
	b.asksAll(33, 34)
	// Transfers have a room of their own.
	b.mustTransfers([]api.Transfer{pay(33, 1, 2, 5, 0)}, 0)
}

// TestP18_1RoomInAChain has chains of accounts for which there is just room, and for which there is none for the last one.
func TestP18_1RoomInAChain(t *testing.T) {
	for length := 1; length <= 5; length++ {
		for there := 32 - length - 1; there <= 32; there++ {
			b := newBoth(t)
			for id := range there {
				b.mustOpen(someone(uint64(1+id), 0), 0)
			}
			list := make([]api.Account, length)
			for i := range list {
				list[i] = someone(uint64(100+i), linked)
			}
			list[length-1].Flags = 0
			want := make([]api.Result, length)
			if left := 32 - there; left < length {
				want = slices.Repeat([]api.Result{1}, length)
				want[left] = 35
			}
			b.mustAccounts(list, want...)
			b.asksAll()
			b.mustAccounts([]api.Account{someone(200, 0)}, map[bool]api.Result{true: 0, false: 35}[len(b.model.accounts) < 32])
		}
	}
}

// TestP18_1RoomForTransfers has chains of transfers for which there is just room, and for which there is none for the last one.
func TestP18_1RoomForTransfers(t *testing.T) {
	for length := 1; length <= 4; length++ {
		for left := range length + 2 {
			b := newBoth(t)
			b.mustAccounts([]api.Account{someone(1, 0), someone(2, 0)}, 0, 0)
			for id := range uint64(96 - left) {
				b.mustTransfers([]api.Transfer{wait(1000+id, 1, 2, 1, 0, 0)}, 0)
			}
			list := make([]api.Transfer, length)
			for i := range list {
				list[i] = end(uint64(100+i), uint64(1000+i), 0, post|linked)
			}
			list[length-1].Flags = void
			want := make([]api.Result, length)
			if left < length {
				want = slices.Repeat([]api.Result{1}, length)
				want[left] = 35
			}
			b.mustTransfers(list, want...)
			b.asksAll()
		}
	}
}

// TestP18_1NoState has none: as of an empty one, there is nothing, and no room, and nothing is done.
func TestP18_1NoState(t *testing.T) {
	if r := chain.Open(nil, someone(1, 0)); r != 35 {
		t.Errorf("Open: %d", r)
	}
	if r := chain.Open(nil, someone(1, linked|debits)); r != 35 {
		t.Errorf("Open: %d", r)
	}
	if r := chain.Open(nil, api.Account{}); r != 4 {
		t.Errorf("Open: %d", r)
	}
	for _, c := range []struct {
		list []api.Account
		want []api.Result
	}{
		{nil, nil},
		{[]api.Account{someone(1, 0)}, []api.Result{35}},
		{[]api.Account{someone(1, 0), someone(1, 0), {}}, []api.Result{35, 35, 4}},
		{[]api.Account{someone(1, 1), someone(1, 0), someone(2, 1)}, []api.Result{35, 1, 2}},
		{[]api.Account{someone(0, 1), someone(1, 1), someone(2, 1)}, []api.Result{1, 1, 2}},
		{[]api.Account{someone(0, 1), someone(1, 0), someone(2, 1), someone(0, 0)}, []api.Result{4, 1, 35, 1}},
	} {
		if got := chain.Accounts(nil, c.list); !slices.Equal(got, c.want) {
			t.Errorf("Accounts(%+v): %v, not %v", c.list, got, c.want)
		}
	}
	for _, s := range []*books.State{nil, books.New()} {
		for _, c := range []struct {
			list []api.Transfer
			want []api.Result
		}{
			{nil, nil},
			{[]api.Transfer{pay(1, 2, 3, 4, 0), end(1, 2, 0, post)}, []api.Result{19, 23}},
			{[]api.Transfer{pay(1, 2, 3, 4, 1), end(1, 2, 0, post), pay(1, 2, 2, 4, 0)}, []api.Result{19, 1, 14}},
			{[]api.Transfer{end(1, 2, 0, void|1), end(1, 2, 0, post|1)}, []api.Result{1, 2}},
			{[]api.Transfer{{}}, []api.Result{4}},
		} {
			if got := chain.Transfers(s, c.list); !slices.Equal(got, c.want) {
				t.Errorf("Transfers(%+v): %v, not %v", c.list, got, c.want)
			}
		}
		if len(s.Accounts()) != 0 || len(s.Keeps()) != 0 || s.Mark() != 0 {
			t.Errorf("%+v, %+v, %d changes", s.Accounts(), s.Keeps(), s.Mark())
		}
	}
}

// TestP18_1NoItems has lists of nothing.
func TestP18_1NoItems(t *testing.T) {
	b := shop(t)
	b.mustAccounts(nil)
	b.mustAccounts([]api.Account{})
	b.mustTransfers(nil)
	b.mustTransfers([]api.Transfer{})
	b.asksAll()
}

// rows does something for each row of up to so many items, of which each is linked or not, and wrong or not.
func rows(most int, do func(links, wrongs []bool)) {
	for length := range most + 1 {
		for bits := range 1 << (2 * length) {
			links, wrongs := make([]bool, length), make([]bool, length)
			for i := range length {
				links[i] = bits>>i&1 == 1
				wrongs[i] = bits>>(length+i)&1 == 1
			}
			do(links, wrongs)
		}
	}
}

// resultsOf is what should come of items, asked of each by itself: what is wrong with it, and what else is of its chain.
func resultsOf(links, wrongs []bool, wrong api.Result) []api.Result {
	list := make([]api.Result, len(links))
	for i := range list {
		from, to := i, i
		for from > 0 && links[from-1] {
			from--
		}
		for to < len(links)-1 && links[to] {
			to++
		}
		failed := slices.Index(wrongs[from:to+1], true)
		switch {
		case links[to] && i == to:
			list[i] = 2
		case links[to]:
			list[i] = 1
		case failed < 0:
			list[i] = 0
		case from+failed == i:
			list[i] = wrong
		default:
			list[i] = 1
		}
	}
	return list
}

func flagOf(is bool) int {
	if is {
		return 1
	}
	return 0
}

// TestP18_1EachRowOfAccounts makes each row of up to six accounts, linked or not, right or wrong.
func TestP18_1EachRowOfAccounts(t *testing.T) {
	b := newBoth(t)
	b.mustOpen(someone(50, 0), 0)
	rows(6, func(links, wrongs []bool) {
		list := make([]api.Account, len(links))
		for i := range list {
			list[i] = someone(uint64(100+i), flagOf(links[i]))
			if wrongs[i] {
				list[i].Code = 0
			}
		}
		b.tries(func() {
			b.mustAccounts(list, resultsOf(links, wrongs, 9)...)
			b.asksAll()
		})
		// What is wrong lies in the state.
		for i := range list {
			list[i].Code = 1
			if wrongs[i] {
				list[i].Id = wide.Of(50)
			}
		}
		b.tries(func() { b.mustAccounts(list, resultsOf(links, wrongs, 10)...) })
	})
}

// TestP18_1EachRowOfTransfers does each row of up to five transfers, linked or not, right or wrong.
func TestP18_1EachRowOfTransfers(t *testing.T) {
	b := shop(t)
	rows(5, func(links, wrongs []bool) {
		list := make([]api.Transfer, len(links))
		for i := range list {
			list[i] = pay(uint64(100+i), 1, 2, 1<<i, flagOf(links[i]))
			if wrongs[i] {
				list[i].Credit = wide.Of(4)
			}
		}
		b.tries(func() {
			b.mustTransfers(list, resultsOf(links, wrongs, 31)...)
			b.asksAll()
		})
	})
}

// TestP18_1FirstToFail has chains in which several items are wrong, each in a way of its own: the first one's is told.
func TestP18_1FirstToFail(t *testing.T) {
	b := crowd(t)
	accounts := []api.Account{{Id: wide.Of(0), Flags: 1}, {Id: wide.Of(9), Ledger: 1, Flags: 1}, someone(1, 1), someone(1, debits|1), someone(9, 1), someone(9, 2|4|1)}
	wants := []api.Result{4, 9, 10, 11, 35, 6}
	for i, first := range accounts {
		for _, second := range accounts {
			second.Flags &^= 1
			b.mustAccounts([]api.Account{first, second}, wants[i], 1)
			b.mustAccounts([]api.Account{first, accounts[0], accounts[1], second}, wants[i], 1, 1, 1)
		}
		b.mustAccounts([]api.Account{first, first}, 1, 2)
	}
	b.asksAll(9)
	transfers := []api.Transfer{pay(20, 1, 2, 0, 1), pay(21, 1, 9, 5, 1), pay(22, 1, 4, 5, 1), end(23, 13, 0, post|1), end(24, 15, 0, void|1), wait(10, 1, 2, 10, 0, 1), pay(25, 3, 1, 1<<40, 1), pay(26, 1, 3, 1<<41, 1)}
	wants = []api.Result{18, 20, 31, 27, 29, 10, 0, 34}
	for i, first := range transfers {
		for j, second := range transfers {
			second.Flags &^= 1
			want := []api.Result{wants[i], 1}
			if wants[i] == 0 {
				want = []api.Result{1, wants[j]}
			}
			if i == j && wants[i] == 0 {
				want = []api.Result{1, 10}
			}
			b.mustTransfers([]api.Transfer{first, second}, want...)
		}
		b.mustTransfers([]api.Transfer{first, first}, 1, 2)
	}
	b.asksAll(20, 21, 22, 23, 24, 25, 26)
}

// TestP18_1ItemsSeeThoseAheadOfThem has chains whose items hang on those ahead of them.
func TestP18_1ItemsSeeThoseAheadOfThem(t *testing.T) {
	for _, c := range []struct {
		list []api.Transfer
		want []api.Result
	}{
		// A pending one that is ended in its own chain, or in the next one.
		{[]api.Transfer{wait(20, 1, 2, 5, 9, 1), end(21, 20, 3, post|1), pay(22, 2, 1, 28, 0)}, []api.Result{0, 0, 0}},
		{[]api.Transfer{wait(20, 1, 2, 5, 9, 1), end(21, 20, 3, post|1), pay(22, 2, 1, 29, 0)}, []api.Result{1, 1, 33}},
		{[]api.Transfer{wait(20, 1, 2, 5, 9, 1), end(21, 20, 0, void|1), end(22, 20, 0, post)}, []api.Result{1, 1, 28}},
		{[]api.Transfer{wait(20, 1, 2, 5, 9, 1), pay(22, 2, 1, 90, 0), end(21, 20, 3, post)}, []api.Result{1, 33, 23}},
		// What is credited ahead of it may be debited.
		{[]api.Transfer{pay(20, 1, 2, 5, 1), pay(21, 2, 1, 30, 1), pay(22, 2, 1, 1, 0)}, []api.Result{1, 1, 33}},
		{[]api.Transfer{pay(20, 1, 2, 5, 1), pay(21, 2, 1, 30, 0), pay(22, 2, 1, 1, 0)}, []api.Result{0, 0, 33}},
		{[]api.Transfer{pay(20, 1, 2, 5, 1), pay(21, 2, 1, 31, 0), pay(22, 2, 1, 25, 0)}, []api.Result{1, 33, 0}},
		// An account that is closed, and opened again.
		{[]api.Transfer{wait(20, 1, 2, 5, 9, closeDebit|1), pay(21, 1, 2, 1, 0), pay(22, 1, 2, 1, 0)}, []api.Result{1, 30, 0}},
		{[]api.Transfer{wait(20, 1, 2, 5, 9, closeDebit), pay(21, 1, 2, 1, 0), pay(22, 1, 2, 1, 0)}, []api.Result{0, 30, 30}},
		{[]api.Transfer{wait(20, 1, 2, 5, 9, closeDebit|1), end(21, 20, 0, void|1), pay(22, 1, 2, 1, 0)}, []api.Result{0, 0, 0}},
		{[]api.Transfer{end(20, 11, 0, void|1), pay(21, 1, 4, 1, 1), pay(22, 1, 3, 1, 0), pay(23, 1, 4, 1, 0)}, []api.Result{1, 1, 34, 31}},
		// A name that is there twice.
		{[]api.Transfer{pay(20, 1, 2, 5, 1), pay(20, 1, 2, 5, 0), pay(20, 1, 2, 6, 0)}, []api.Result{1, 10, 0}},
		{[]api.Transfer{pay(20, 1, 2, 5, 0), pay(20, 1, 2, 5, 1), pay(21, 1, 2, 6, 0)}, []api.Result{0, 10, 1}},
		{[]api.Transfer{pay(20, 1, 2, 5, 1), pay(20, 1, 2, 6, 0)}, []api.Result{1, 11}},
	} {
		b := shop(t)
		b.mustTransfers(c.list, c.want...)
		b.asksAll()
		b.time(50)
		b.asksAll()
	}
	b := newBoth(t)
	b.mustAccounts([]api.Account{someone(1, 1), someone(2, 1), someone(1, 0), someone(2, debits), someone(1, 0)}, 1, 1, 10, 0, 0)
	b.mustAccounts([]api.Account{someone(3, 1), someone(3, debits), someone(3, 1), someone(4, 0)}, 1, 11, 0, 0)
	b.asksAll()
}

// TestP18_1FailedChainsLeaveNoTrace has a chain that ends, closes, opens and waits, and fails at its end: what was pending waits, and expires as it should.
func TestP18_1FailedChainsLeaveNoTrace(t *testing.T) {
	b := shop(t)
	fails := []api.Transfer{
		end(20, 10, 4, post|1), end(21, 11, 0, void|1), wait(22, 1, 4, 7, 3, closeDebit|closeCredit|1), wait(23, 3, 2, 7, 3, 1), end(24, 22, 0, void|1), pay(25, 1, 4, 3, 1), pay(26, 2, 2, 1, 0),
	}
	want := []api.Result{1, 1, 1, 1, 1, 1, 14}
	was := b.model.copy()
	for range 3 {
		b.mustTransfers(fails, want...)
		if !b.model.is(was) {
			t.Fatalf("the model: %+v, not %+v", b.model, was)
		}
		b.asksAll(20, 21, 22, 23, 24, 25, 26)
	}
	b.tries(func() { b.mustTime(49, 0); b.mustTransfers([]api.Transfer{end(20, 11, 0, post)}, 0) })
	b.tries(func() { b.mustTime(50, 1); b.mustTransfers([]api.Transfer{end(20, 11, 0, post)}, 29); b.asksAll(20) })
	fails[6] = pay(26, 4, 1, 1, 0)
	b.mustTransfers(fails, 0, 0, 0, 0, 0, 0, 0)
	if b.s.Stamp() != was.stamp+7 {
		t.Errorf("stamp %d, not %d", b.s.Stamp(), was.stamp+7)
	}
	b.mustTime(9, 0)
	b.mustTime(10, 1)
	b.asksAll()
}

// TestP18_1NamesAreFreeAgain uses the names of a chain that failed, in the next one, and as the other kind of thing.
func TestP18_1NamesAreFreeAgain(t *testing.T) {
	b := newBoth(t)
	b.mustAccounts([]api.Account{someone(1, 1), someone(2, 1), someone(0, 0), someone(2, credits|1), someone(1, debits)}, 1, 1, 4, 0, 0)
	b.mustAccounts([]api.Account{someone(1, debits), someone(2, credits)}, 10, 10)
	if got := b.s.Accounts(); got[0].Id != wide.Of(2) || got[0].Stamp != 1 || got[1].Id != wide.Of(1) || got[1].Stamp != 2 {
		t.Errorf("%+v", got)
	}
	b.mustOpen(someone(3, 0), 0)
	b.mustTransfers([]api.Transfer{pay(1, 3, 1, 5, 1), pay(2, 2, 3, 0, 0), pay(2, 2, 3, 9, 1), pay(1, 3, 1, 6, 0)}, 1, 18, 0, 0)
	b.asksAll()
}

// TestP18_1LinkedIsKept has transfers that are linked: they are kept so, and are there again, linked or not.
func TestP18_1LinkedIsKept(t *testing.T) {
	b := shop(t)
	b.mustTransfers([]api.Transfer{pay(20, 1, 2, 5, 1), end(21, 10, 0, post|1), pay(22, 1, 2, 5, 0)}, 0, 0, 0)
	for i, flags := range []int{1, 5, 0} {
		if k, is := b.s.Kept(wide.Of(uint64(20 + i))); !is || k.Asked.Flags != flags || k.Move.Flags != flags {
			t.Errorf("%+v, %v", k, is)
		}
	}
	b.mustTransfers([]api.Transfer{pay(20, 1, 2, 5, 0), end(21, 10, 0, post), pay(22, 1, 2, 5, 0)}, 10, 10, 10)
	b.mustTransfers([]api.Transfer{pay(20, 1, 2, 5, 1), end(21, 10, 0, post|1), pay(22, 1, 2, 5, 0)}, 10, 1, 1)
	b.mustTransfers([]api.Transfer{pay(22, 1, 2, 5, 1), pay(23, 1, 2, 5, 0)}, 10, 1)
	b.asksAll(23)
}

// TestP18_1StrangeFlags has items of flags that there aren't, by which they are linked, or not.
func TestP18_1StrangeFlags(t *testing.T) {
	b := shop(t)
	for _, flags := range []int{-1, 17, 257, 1<<40 + 1, math.MaxInt, math.MinInt + 1} {
		b.mustAccounts([]api.Account{someone(20, flags), someone(21, 0)}, 3, 1)
		b.mustAccounts([]api.Account{someone(20, 1), someone(21, flags), someone(22, 0)}, 1, 3, 1)
		b.mustAccounts([]api.Account{someone(20, flags)}, 2)
		b.mustTransfers([]api.Transfer{pay(20, 1, 2, 5, flags|256), pay(21, 1, 2, 5, 0)}, 3, 1)
		b.mustTransfers([]api.Transfer{pay(20, 1, 2, 5, 1), pay(21, 1, 2, 5, flags|256), pay(22, 1, 2, 5, 0)}, 1, 3, 1)
		b.mustTransfers([]api.Transfer{pay(20, 1, 2, 5, flags|256)}, 2)
	}
	for _, flags := range []int{-2, 16, 256, math.MinInt} {
		b.mustAccounts([]api.Account{someone(20, flags), someone(0, 0)}, 3, 4)
		b.mustTransfers([]api.Transfer{pay(20, 1, 2, 5, flags|256), pay(21, 1, 2, 0, 0)}, 3, 18)
	}
	b.asksAll(20, 21, 22)
}

// TestP18_1LongLists has lists of more items than a request has, as one chain and as many.
func TestP18_1LongLists(t *testing.T) {
	b := shop(t)
	var accounts []api.Account
	var transfers []api.Transfer
	for id := range uint64(300) {
		accounts = append(accounts, someone(100+id, int(id%3)%2))
		transfers = append(transfers, pay(100+id, 1, 2, id%7, int(id%5)%2))
	}
	b.accounts(accounts)
	b.transfers(transfers)
	b.asksAll()
	b = shop(t)
	for i := range accounts {
		accounts[i].Flags, transfers[i].Flags = 1, 1
		transfers[i].Amount = wide.Of(1)
	}
	open := append(slices.Repeat([]api.Result{1}, 299), 2)
	b.mustAccounts(accounts, open...)
	b.mustTransfers(transfers, open...)
	accounts[299].Flags, transfers[299].Flags = 0, 0
	full := slices.Repeat([]api.Result{1}, 300)
	full[27] = 35
	b.mustAccounts(accounts, full...)
	full[27], full[91] = 1, 35
	b.mustTransfers(transfers, full...)
	b.mustTransfers(transfers[300-91:], make([]api.Result, 91)...)
	b.mustAccounts(accounts[300-27:], make([]api.Result, 27)...)
	b.asksAll()
}

// TestP18_1WhatIsHandedIn has lists with spare room, that are written into behind the calls: they aren't changed, nor kept.
func TestP18_1WhatIsHandedIn(t *testing.T) {
	b := shop(t)
	accounts := []api.Account{someone(20, 1), someone(21, 0), someone(0, 0), someone(22, 1), someone(23, 0), someone(24, 7), someone(25, 1)}
	transfers := []api.Transfer{wait(20, 1, 2, 5, 3, 1), end(21, 20, 0, post), pay(22, 1, 2, 0, 1), pay(23, 1, 2, 3, 0), pay(24, 2, 1, 0, debitMost), pay(25, 1, 2, 4, 1)}
	wereAccounts, wereTransfers := slices.Clone(accounts), slices.Clone(transfers)
	made, done := b.accounts(accounts[:4:7]), b.transfers(transfers[:5:6])
	if !slices.Equal(accounts, wereAccounts) || !slices.Equal(transfers, wereTransfers) {
		t.Errorf("%+v, %+v", accounts, transfers)
	}
	wants := [2][]api.Result{{0, 0, 4, 2}, {0, 0, 18, 1, 0}}
	if !slices.Equal(made, wants[0]) || !slices.Equal(done, wants[1]) {
		t.Errorf("%v, %v", made, done)
	}
	clear(accounts)
	clear(transfers)
	b.asksAll()
	b.mustAccounts([]api.Account{someone(20, 0)}, 10)
}

// TestP18_1AnswersAreNew writes into what was answered: later answers don't see it.
func TestP18_1AnswersAreNew(t *testing.T) {
	for _, s := range []*books.State{nil, books.New(), shop(t).s} {
		accounts, transfers := []api.Account{someone(0, 0), someone(0, 1), someone(1, 0)}, []api.Transfer{pay(0, 1, 2, 3, 0), pay(0, 1, 2, 3, 1), pay(1, 2, 3, 4, 0)}
		for range 3 {
			made, done := chain.Accounts(s, accounts), chain.Transfers(s, transfers)
			if want := []api.Result{4, 4, 1}; !slices.Equal(made, want) || !slices.Equal(done, want) {
				t.Errorf("%v, %v", made, done)
			}
			for _, list := range [][]api.Result{made, done} {
				list = list[:cap(list)]
				for i := range list {
					list[i] = 77
				}
			}
		}
	}
}

// TestP18_1TakenBack has batches that are taken back as a whole, and done again.
func TestP18_1TakenBack(t *testing.T) {
	b := shop(t)
	list := []func(){
		func() {
			b.mustAccounts([]api.Account{someone(20, 1), someone(21, debits), someone(20, 1), someone(22, 0), someone(23, 0)}, 0, 0, 10, 1, 0)
		},
		func() {
			b.mustTransfers([]api.Transfer{pay(30, 20, 21, 5, 1), end(31, 10, 4, post), wait(32, 20, 2, 5, 3, closeDebit)}, 0, 0, 0)
		},
		func() {
			b.mustTransfers([]api.Transfer{wait(33, 21, 1, 5, 3, 1), pay(34, 21, 1, 1, 0), end(35, 11, 0, void)}, 1, 33, 0)
		},
		func() { b.mustTime(10, 1) },
		func() { b.mustOpen(someone(22, 1), 0) },
		func() { b.mustTransfers([]api.Transfer{pay(33, 20, 4, 5, 1), pay(34, 21, 22, 1, 0)}, 0, 0) },
	}
	for range 2 {
		b.tries(func() {
			for i := range list {
				b.tries(func() {
					for _, do := range list[i:] {
						do()
					}
				})
				b.asksAll()
				list[i]()
			}
		})
		b.asksAll()
	}
	list[0]()
	b.s.Clear()
	b.s.Back(0)
	b.asksAll()
	list[1]()
}

// TestP18_1StatesKnowNothingOfOneAnother does chains over two states.
func TestP18_1StatesKnowNothingOfOneAnother(t *testing.T) {
	a, b := shop(t), shop(t)
	a.mustTransfers([]api.Transfer{end(20, 10, 0, post|1), pay(21, 1, 2, 5, 0)}, 0, 0)
	b.asksAll(20, 21)
	b.mustTransfers([]api.Transfer{end(20, 10, 0, void|1), pay(21, 1, 2, 0, 0)}, 1, 18)
	a.asksAll()
	b.mustAccounts([]api.Account{someone(20, 1), someone(21, 0)}, 0, 0)
	a.asksAll()
	a.mustAccounts([]api.Account{someone(20, 1), someone(1, 0)}, 1, 10)
	b.asksAll()
}

// TestP18_1AnyState loads states that no calls leave, whose accounts may be missing, or linked: all calls end, and of a chain that fails nothing has happened.
func TestP18_1AnyState(t *testing.T) {
	c := newChances(5, 30)
	for range 2000 {
		m := model{clock: c.Intn(9)}
		for id := range uint64(6) {
			if c.Intn(3) > 0 {
				m.stamp++
				m.accounts = append(m.accounts, api.Account{Id: wide.Of(id), DebitsPending: c.amount(), CreditsPosted: c.amount(), Ledger: c.Intn(2), Flags: c.Intn(16), Stamp: m.stamp})
			}
		}
		for id := range uint64(6) {
			x := wait(id, c.Uint64()%4, c.Uint64()%4, c.Uint64()%30, c.Intn(12)-3, c.Intn(256))
			m.stamp++
			x.Stamp, x.Born = m.stamp, c.Intn(9)-3
			m.kept = append(m.kept, api.Kept{Asked: x, Move: x, Fate: c.Intn(5)})
		}
		s := m.state(t)
		for range 4 {
			was := modelOf(s)
			transfers := c.transfers(s.Keeps())
			if got := chain.Transfers(s, transfers); !slices.Contains(got, 0) && !modelOf(s).is(was) {
				t.Fatalf("Transfers(%+v): %v, and %+v, not %+v", transfers, got, modelOf(s), was)
			}
			was = modelOf(s)
			accounts := c.accounts()
			if got := chain.Accounts(s, accounts); !slices.Contains(got, 0) && !modelOf(s).is(was) {
				t.Fatalf("Accounts(%+v): %v, and %+v, not %+v", accounts, got, modelOf(s), was)
			}
			hold.Time(s, c.Intn(12))
		}
	}
}
