package move_test

import (
	"math/big"
	"math/rand"
	"slices"
	"testing"

	"bondstore/api"
	"bondstore/books"
	"bondstore/move"
	"bondstore/wide"
)

// evenSums asks whether of each ledger debits and credits are even, posted and pending.
func (b *both) evenSums() {
	b.t.Helper()
	type sums struct{ posted, pending *big.Int }
	all := map[int]sums{}
	for _, a := range b.s.Accounts() {
		one := all[a.Ledger]
		if one.posted == nil {
			one = sums{new(big.Int), new(big.Int)}
			all[a.Ledger] = one
		}
		one.posted.Add(one.posted, value(a.DebitsPosted)).Sub(one.posted, value(a.CreditsPosted))
		one.pending.Add(one.pending, value(a.DebitsPending)).Sub(one.pending, value(a.CreditsPending))
	}
	for ledger, one := range all {
		if one.posted.Sign() != 0 || one.pending.Sign() != 0 {
			b.t.Fatalf("ledger %d: debits are more than credits by %v posted, %v pending", ledger, one.posted, one.pending)
		}
	}
}

// isBeyond answers whether an account has more on a limited side than it may.
func isBeyond(a api.Account) bool {
	tooMuch := isAbove(together(a.DebitsPending, a.DebitsPosted), value(a.CreditsPosted))
	tooFew := isAbove(together(a.CreditsPending, a.CreditsPosted), value(a.DebitsPosted))
	return a.Flags&debits != 0 && tooMuch || a.Flags&credits != 0 && tooFew
}

// withinLimits asks whether each account holds to its flags.
func (b *both) withinLimits() {
	b.t.Helper()
	for _, a := range b.s.Accounts() {
		if isBeyond(a) {
			b.t.Fatalf("beyond its limit: %+v", a)
		}
	}
}

// town opens accounts of all flags that may be asked for, in two ledgers: 1 to 4 and 5 to 8.
func town(b *both) {
	for id := range uint64(8) {
		b.open(api.Account{Id: wide.Of(id + 1), Ledger: 1 + int(id/4), Code: 3, Flags: []int{0, debits, credits, 0}[id%4]})
	}
}

// chanceTransfer is any transfer; often it can be done.
func chanceTransfer(chance *rand.Rand, ids int) api.Transfer {
	ledger, debit := chance.Intn(2), chance.Intn(4)
	credit := (debit + 1 + chance.Intn(3)) % 4
	x := api.Transfer{
		Id:     wide.Of(uint64(1 + chance.Intn(ids))),
		Debit:  wide.Of(uint64(1 + 4*ledger + debit)),
		Credit: wide.Of(uint64(1 + 4*ledger + credit)),
		Amount: wide.Of(uint64(chance.Intn(20))),
		Ledger: 1 + ledger,
		Code:   1,
		Flags:  []int{0, 0, pending, debitMost, creditMost, debitMost | creditMost}[chance.Intn(6)] | chance.Intn(2),
	}
	if x.Flags&pending != 0 {
		x.Timeout = chance.Intn(9)
	}
	switch chance.Intn(60) {
	case 0:
		x.Amount = amounts()[chance.Intn(len(amounts()))]
	case 1:
		x.Flags = chance.Intn(64) - 1
	case 2:
		if chance.Intn(6) == 0 {
			x.Flags |= pending | closeDebit*chance.Intn(2) | closeCredit*chance.Intn(2)
		}
	case 3:
		x.Ledger = 3 - x.Ledger
	case 4:
		x.Credit = wide.Of(uint64(chance.Intn(11)))
	case 5:
		x.Debit = wide.Of(uint64(chance.Intn(11)))
	case 6:
		x.Code, x.Ledger = chance.Intn(2), chance.Intn(2)
	case 7:
		x.Pending, x.Flags = wide.Of(uint64(chance.Intn(ids))), []int{0, post, void, closeDebit}[chance.Intn(4)]
	case 8:
		x.Id = []api.Num{{}, wide.Most}[chance.Intn(2)]
	case 9:
		x.Stamp, x.Born, x.Timeout = chance.Intn(2), chance.Intn(2), chance.Intn(2)
	}
	return x
}

// chanceStep lets time go on, or does a transfer, and answers what came of it.
func (b *both) chanceStep(chance *rand.Rand, ids int) api.Result {
	b.t.Helper()
	if chance.Intn(10) == 0 {
		b.time(b.model.clock + chance.Intn(4) - 1)
	}
	return b.do(chanceTransfer(chance, ids))
}

// TestP16_1EveryOrder does transfers in chance orders, up to full states and beyond.
func TestP16_1EveryOrder(t *testing.T) {
	chance := rand.New(rand.NewSource(1))
	came := map[api.Result]int{}
	for round := range 150 {
		b := newBoth(t)
		town(b)
		for range 300 {
			came[b.chanceStep(chance, []int{20, 90, 400}[round%3])]++
			// Limits and sums are promised of the same states.
			b.evenSums()
			b.withinLimits()
		}
		b.asksAll()
	}
	wantsAll(t, came, 0, 3, 4, 5, 6, 7, 8, 9, 10, 11, 12, 13, 14, 15, 16, 17, 18, 19, 20, 21, 22, 30, 31, 32, 33, 34, 35)
}

// TestP16_1AccountsComeBetween opens accounts, and lets time go on, among transfers.
func TestP16_1AccountsComeBetween(t *testing.T) {
	b := newBoth(t)
	for id := range uint64(32) {
		b.must(pay(100+2*id, id+1, 40, 5, 0), 19)
		b.opens(id+1, []int{0, credits, debits}[id%3])
		b.must(pay(100+2*id, id+1, 40, 5, 0), 20)
		if id > 0 {
			b.must(pay(100+2*id, 1, id+1, 5, pending), []api.Result{0, 34, 0}[id%3])
			b.must(pay(101+2*id, id+1, 1, 5, 0), []api.Result{0, 0, 33}[id%3])
		}
		b.time(int(7 * id))
		b.evenSums()
		b.withinLimits()
	}
	if err := b.s.Open(api.Account{Id: wide.Of(40), Ledger: 1}); err != api.ErrFull {
		t.Errorf("Open: %d", err)
	}
	b.asksAll()
}

// TestP16_1Loaded loads states anew from what they tell, and goes on with both.
func TestP16_1Loaded(t *testing.T) {
	chance := rand.New(rand.NewSource(2))
	for range 40 {
		b := newBoth(t)
		town(b)
		for range 60 {
			b.chanceStep(chance, 90)
		}
		anew := loaded(t, b.model)
		for range 60 {
			x := chanceTransfer(chance, 120)
			if got, want := anew.do(x), b.do(x); got != want {
				t.Fatalf("Do(%+v): %d of the loaded state, not %d", x, got, want)
			}
		}
		anew.asksAll()
	}
}

// corner is a state in which something is wrong with the transfers from account 1 to account 2.
type corner struct {
	debit, credit int // flags of these accounts; -1: it isn't there
	ledgers       [2]int
	full          bool
	kept          int // 0: none of the name 9 is kept; 1: one is that is asked for again; 2: another one
}

// stateOf makes the state of a corner, as it is to be for a transfer.
func stateOf(t *testing.T, c corner, x api.Transfer) *both {
	t.Helper()
	var m model
	for i, flags := range []int{c.debit, c.credit} {
		m.stamp++
		if flags >= 0 {
			m.accounts = append(m.accounts, api.Account{Id: wide.Of(uint64(i + 1)), Ledger: c.ledgers[i], Code: 1, Flags: flags, Stamp: m.stamp})
		}
	}
	if c.kept > 0 {
		asked := x
		asked.Code += c.kept - 1
		m.keep(asked, big.NewInt(77), false)
		// The name of one that can't be done is never there.
		m.kept[0].Move.Id = wide.Of(9)
	}
	for c.full && len(m.kept) < 96 {
		m.keep(pay(1000+uint64(len(m.kept)), 3, 4, 5, 0), big.NewInt(5), false)
	}
	return loaded(t, m)
}

// corners are all states in which some things are wrong.
func corners() []corner {
	var list []corner
	flags := []int{-1, 0, debits | credits, closed}
	for _, debit := range flags {
		for _, credit := range flags {
			for ledgers := range 4 {
				for kept := range 3 {
					for full := range 2 {
						list = append(list, corner{debit, credit, [2]int{1 + ledgers%2, 1 + ledgers/2}, full == 1, kept})
					}
				}
			}
		}
	}
	return list
}

// cornerTransfers are transfers with which something is wrong, or nothing.
func cornerTransfers() []api.Transfer {
	var list []api.Transfer
	for _, flags := range []int{0, pending, post, debitMost, creditMost, debitMost | creditMost, pending | closeDebit} {
		for _, amount := range []api.Num{{}, wide.Of(5), wide.Most} {
			x := pays(9, 1, 2, amount, flags)
			if flags&post != 0 {
				x.Pending = wide.Of(1000)
			}
			list = append(list, x)
			x.Id = wide.Most
			list = append(list, x)
		}
	}
	return list
}

// TestP16_1TheFirstThatIsWrong has transfers with which two things are wrong, or more, in each way: the first one is told.
func TestP16_1TheFirstThatIsWrong(t *testing.T) {
	came := map[api.Result]int{}
	two := map[[2]api.Result]bool{}
	for _, c := range corners() {
		for _, x := range cornerTransfers() {
			b := stateOf(t, c, x)
			wrongs := slices.DeleteFunc(b.model.wrongs(x), func(r api.Result) bool { return r == 0 })
			if len(wrongs) > 1 {
				two[[2]api.Result(wrongs)] = true
			}
			came[b.do(x)]++
		}
	}
	wantsAll(t, came, 0, 5, 6, 10, 11, 18, 19, 20, 21, 22, 30, 31, 33, 34, 35)
	for _, p := range [][2]api.Result{{5, 6}, {6, 10}, {6, 11}, {10, 19}, {11, 19}, {11, 20}, {19, 20}, {19, 31}, {20, 30}, {21, 22}, {22, 30}, {22, 31}, {30, 31}, {30, 35}, {31, 35}} {
		if !two[p] {
			t.Errorf("never both %d and %d", p[0], p[1])
		}
	}
}

// TestP16_2Example moves amounts within two ledgers, posted and pending.
func TestP16_2Example(t *testing.T) {
	b := newBoth(t)
	town(b)
	for i, x := range []api.Transfer{pay(1, 1, 2, 5, 0), pay(2, 1, 4, 7, pending), pay(3, 2, 4, 3, pending|closeDebit), pays(4, 4, 1, wide.Most, 0)} {
		b.must(x, 0)
		x.Id, x.Ledger = wide.Of(uint64(10+i)), 2
		x.Debit.Lo += 4
		x.Credit.Lo += 4
		b.must(x, 0)
		b.evenSums()
	}
	b.must(pay(20, 1, 5, 3, 0), 21)
	b.must(pay(20, 3, 4, 3, 0), 0)
	b.must(pay(21, 1, 4, 3, 0), 0)
	b.evenSums()
}

// TestP16_2OneSideFails has transfers whose debit could be done, and whose credit can't: neither is.
func TestP16_2OneSideFails(t *testing.T) {
	for _, waits := range []int{0, pending} {
		b := newBoth(t)
		town(b)
		b.must(pay(1, 1, 3, 3, waits), 34)
		b.evenSums()
		b.must(pay(1, 2, 4, 3, waits), 33)
		b.evenSums()
		b.must(pays(1, 1, 4, wide.Most, waits), 0)
		b.must(pay(2, 3, 4, 1, waits), 32)
		b.evenSums()
		b.must(pay(2, 1, 2, 1, waits), 32)
		b.evenSums()
	}
}

// TestP16_2ManyOrders does transfers of great amounts in chance orders.
func TestP16_2ManyOrders(t *testing.T) {
	chance := rand.New(rand.NewSource(4))
	came := map[api.Result]int{}
	for range 300 {
		b := newBoth(t)
		town(b)
		for range 60 {
			x := chanceTransfer(chance, 400)
			x.Amount = api.Num{Hi: chance.Uint64() >> (chance.Intn(65) * chance.Intn(2)), Lo: chance.Uint64()}
			came[move.Do(b.s, x)]++
			b.evenSums()
			b.withinLimits()
		}
	}
	for _, r := range []api.Result{0, 32, 33, 34} {
		if came[r] == 0 {
			t.Errorf("never %d: %v", r, came)
		}
	}
}

// TestP16_3Example debits an account up to its credits, pending and posted together, and credits one up to its debits.
func TestP16_3Example(t *testing.T) {
	b := newBoth(t)
	town(b)
	for i, c := range []struct {
		x    api.Transfer
		want api.Result
	}{
		{pay(1, 2, 1, 1, 0), 33},
		{pay(1, 2, 1, 1, pending), 33},
		{pay(1, 1, 2, 9, pending), 0},
		{pay(2, 2, 1, 1, 0), 33},
		{pay(2, 1, 2, 9, 0), 0},
		{pay(3, 2, 1, 4, pending), 0},
		{pay(4, 2, 1, 6, 0), 33},
		{pay(4, 2, 1, 6, pending), 33},
		{pay(4, 2, 1, 5, 0), 0},
		{pay(5, 2, 1, 1, 0), 33},
		{pay(5, 1, 3, 1, 0), 34},
		{pay(5, 1, 3, 1, pending), 34},
		{pay(5, 3, 1, 9, pending), 0},
		{pay(6, 1, 3, 1, 0), 34},
		{pay(6, 3, 1, 9, 0), 0},
		{pay(7, 1, 3, 4, pending), 0},
		{pay(8, 1, 3, 6, 0), 34},
		{pay(8, 1, 3, 5, 0), 0},
		{pay(9, 1, 3, 1, pending), 34},
		{pay(9, 1, 3, 0, creditMost), 34},
		{pay(9, 2, 1, 0, debitMost), 33},
	} {
		if got := b.do(c.x); got != c.want {
			t.Errorf("%d: %d, not %d", i, got, c.want)
		}
		b.withinLimits()
	}
}

// TestP16_3EachFew does each four transfers of a few, among two limited accounts and a free one.
func TestP16_3EachFew(t *testing.T) {
	var few []api.Transfer
	for _, flags := range []int{0, pending, debitMost | creditMost} {
		few = append(few, pay(0, 1, 2, 1, flags), pay(0, 2, 1, 2, flags), pay(0, 1, 3, 2, flags), pay(0, 3, 1, 1, flags))
	}
	few = append(few, pay(0, 3, 2, 1, 0), pay(0, 2, 3, 1, pending|closeCredit))
	b := newBoth(t)
	b.opens(1, 0)
	b.opens(2, debits)
	b.opens(3, credits)
	var each func(depth int)
	each = func(depth int) {
		if depth == 0 {
			return
		}
		for _, x := range few {
			mark, was := b.s.Mark(), b.model.copy()
			x.Id = wide.Of(uint64(depth))
			if b.do(x) == 0 {
				b.evenSums()
				b.withinLimits()
				each(depth - 1)
			}
			b.s.Back(mark)
			b.model = was
		}
	}
	each(4)
	b.asksAll()
}

// TestP16_3BothLimits has an account of which neither side may be more than the other one is posted: nothing can be moved there at all.
func TestP16_3BothLimits(t *testing.T) {
	b := newBoth(t)
	b.opens(1, debits|credits)
	b.opens(2, 0)
	for _, flags := range []int{0, pending, debitMost, creditMost, pending | closeDebit} {
		for _, n := range []uint64{1, 9} {
			if got := b.do(pay(9, 1, 2, n, flags&^creditMost)); got != 33 {
				t.Errorf("%d", got)
			}
			if got := b.do(pay(9, 2, 1, n, flags&^debitMost)); got != 34 {
				t.Errorf("%d", got)
			}
		}
	}
	b.withinLimits()
	if len(b.s.Keeps()) != 0 {
		t.Errorf("%+v", b.s.Keeps())
	}
}

// TestP16_3OpenedWithBalances has accounts that come with balances: a limited one that holds to its flags still does.
func TestP16_3OpenedWithBalances(t *testing.T) {
	chance := rand.New(rand.NewSource(5))
	for range 4000 {
		some := func() api.Num { return wide.Of(uint64(chance.Intn(7))) }
		one := func(id uint64) api.Account {
			return api.Account{Id: wide.Of(id), DebitsPending: some(), DebitsPosted: some(), CreditsPending: some(), CreditsPosted: some(), Ledger: 1, Flags: chance.Intn(4) << 1}
		}
		s := books.New()
		first, second := one(1), one(2)
		if isBeyond(first) || isBeyond(second) {
			continue
		}
		b := &both{t: t, s: s}
		b.open(first)
		b.open(second)
		for id := range uint64(8) {
			b.do(pay(id+1, 1+id%2, 2-id%2, uint64(chance.Intn(6)), chance.Intn(64)&^(post|void)))
			b.withinLimits()
		}
	}
}
