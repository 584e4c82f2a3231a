package move_test

import (
	"math"
	"math/big"
	"math/rand"
	"testing"

	"bondstore/api"
	"bondstore/wide"
)

// amounts are numbers of 128 bits at which a word, or all, turns.
func amounts() []api.Num {
	return []api.Num{
		{}, wide.Of(1), wide.Of(2), {Lo: math.MaxUint64}, {Hi: 1}, {Hi: 1 << 63},
		{Hi: 1<<63 - 1, Lo: math.MaxUint64}, {Hi: math.MaxUint64, Lo: math.MaxUint64 - 1}, wide.Most,
	}
}

// moves are all flags of transfers that don't end another one, and that go together.
func moves() []int {
	var list []int
	for flags := range 256 {
		ends := flags&(post|void) != 0
		closes := flags&(closeDebit|closeCredit) != 0
		if !ends && (!closes || flags&pending != 0) {
			list = append(list, flags)
		}
	}
	return list
}

// pair is a state of two accounts, 1 and 2, as they are.
func pair(t *testing.T, debit, credit api.Account) *both {
	t.Helper()
	b := newBoth(t)
	debit.Id, debit.Ledger = wide.Of(1), 1
	credit.Id, credit.Ledger = wide.Of(2), 1
	b.open(debit)
	b.open(credit)
	return b
}

// try does a transfer from the one to the other of a pair, of each of some flags, and takes it back each time.
func (b *both) try(n api.Num, list []int, came map[api.Result]int) {
	b.t.Helper()
	was := b.model.copy()
	for _, flags := range list {
		if n == (api.Num{}) && flags&(debitMost|creditMost) == 0 {
			b.must(pays(9, 1, 2, n, flags), 18)
			continue
		}
		mark := b.s.Mark()
		came[b.do(pays(9, 1, 2, n, flags))]++
		b.s.Back(mark)
		b.model = was.copy()
	}
	b.asks()
}

// wantsAll asks whether just these results came.
func wantsAll(t *testing.T, came map[api.Result]int, want ...api.Result) {
	t.Helper()
	for _, r := range want {
		if came[r] == 0 {
			t.Errorf("never %d: %v", r, came)
		}
	}
	if len(came) != len(want) {
		t.Errorf("%v came, not just %v", came, want)
	}
}

// TestP16_1AmountOfFew moves small amounts about what there is, of each flags of the transfer and of both accounts.
func TestP16_1AmountOfFew(t *testing.T) {
	came := map[api.Result]int{}
	for have := range uint64(4) {
		for other := range uint64(4) {
			for limits := range 16 {
				debit := api.Account{CreditsPosted: wide.Of(have + 2), DebitsPosted: wide.Of(1), DebitsPending: wide.Of(1), CreditsPending: wide.Of(50), Flags: limits & 3 << 1}
				credit := api.Account{DebitsPosted: wide.Of(other + 5), CreditsPosted: wide.Of(2), CreditsPending: wide.Of(3), DebitsPending: wide.Of(50), Flags: limits >> 2 << 1}
				b := pair(t, debit, credit)
				for n := range uint64(5) {
					b.try(wide.Of(n), moves(), came)
				}
			}
		}
	}
	wantsAll(t, came, 0, 33, 34)
}

// TestP16_1AmountOfEdges moves amounts at the edges, between accounts whose balances are there.
func TestP16_1AmountOfEdges(t *testing.T) {
	came := map[api.Result]int{}
	flags := []int{0, pending, debitMost, creditMost | pending, debitMost | creditMost}
	for _, p := range amounts() {
		for _, q := range amounts() {
			for limits := range 4 {
				list := []*both{
					pair(t, api.Account{CreditsPosted: p, DebitsPosted: q, Flags: limits & 1 << 1}, api.Account{DebitsPosted: wide.Most, Flags: limits << 1}),
					pair(t, api.Account{CreditsPosted: p, DebitsPending: q, Flags: limits & 1 << 1}, api.Account{DebitsPosted: q, CreditsPosted: p, Flags: limits << 1}),
					pair(t, api.Account{CreditsPosted: wide.Most, Flags: limits & 1 << 1}, api.Account{DebitsPosted: p, CreditsPosted: q, Flags: limits << 1}),
					pair(t, api.Account{CreditsPosted: q, DebitsPosted: p}, api.Account{DebitsPosted: p, CreditsPending: q, Flags: limits << 1}),
				}
				for _, b := range list {
					for _, n := range amounts() {
						b.try(n, flags, came)
					}
				}
			}
		}
	}
	wantsAll(t, came, 0, 32, 33, 34)
}

// TestP16_1AmountByChance moves amounts of any size between accounts of any balances.
func TestP16_1AmountByChance(t *testing.T) {
	chance := rand.New(rand.NewSource(16))
	came := map[api.Result]int{}
	some := func(small bool) api.Num {
		if small {
			return wide.Of(uint64(chance.Intn(6)))
		}
		// Half of them are of all words, so that sums go beyond the greatest number.
		return api.Num{Hi: chance.Uint64() >> (chance.Intn(65) * chance.Intn(2)), Lo: chance.Uint64() >> chance.Intn(65)}
	}
	for i := range 6000 {
		small := i%2 == 0
		one := func() api.Account {
			return api.Account{DebitsPending: some(small), DebitsPosted: some(small), CreditsPending: some(small), CreditsPosted: some(small), Flags: chance.Intn(4) << 1}
		}
		b := pair(t, one(), one())
		b.try(some(small), moves(), came)
	}
	wantsAll(t, came, 0, 32, 33, 34)
}

// TestP16_1AmountOfNone has transfers that balance, and name no amount: all that there is is moved, the greatest number at most.
func TestP16_1AmountOfNone(t *testing.T) {
	for _, flags := range []int{debitMost, creditMost, debitMost | creditMost} {
		for _, waits := range []int{0, pending} {
			for _, amount := range []api.Num{{}, wide.Most} {
				b := pair(t, api.Account{CreditsPosted: wide.Most}, api.Account{DebitsPosted: wide.Most})
				b.must(pays(9, 1, 2, amount, flags|waits), 0)
				k, _ := b.s.Kept(wide.Of(9))
				if k.Move.Amount != wide.Most || k.Asked.Amount != amount {
					t.Errorf("%+v", k)
				}
			}
		}
	}
}

// TestP16_1AmountOfBoth has transfers that balance at both sides: the debited account is asked first.
func TestP16_1AmountOfBoth(t *testing.T) {
	for have := range uint64(5) {
		for other := range uint64(5) {
			for n := range uint64(6) {
				b := pair(t, api.Account{CreditsPosted: wide.Of(have)}, api.Account{DebitsPosted: wide.Of(other)})
				least := min(have, other)
				if n > 0 {
					least = min(least, n)
				}
				switch {
				case have == 0:
					b.must(pay(9, 1, 2, n, debitMost|creditMost), 33)
				case other == 0:
					b.must(pay(9, 1, 2, n, debitMost|creditMost), 34)
				default:
					b.must(pay(9, 1, 2, n, debitMost|creditMost), 0)
				}
				k, is := b.s.Kept(wide.Of(9))
				if is != (least > 0) || k.Move.Amount != wide.Of(least) {
					t.Errorf("%d, %d, %d: %+v, %v", have, other, n, k, is)
				}
			}
		}
	}
}

// TestP16_1AmountIsAskedFirst has transfers of which several things are wrong: nothing to be moved, then the debited account, then the credited one.
func TestP16_1AmountIsAskedFirst(t *testing.T) {
	whole := api.Account{DebitsPosted: wide.Most, CreditsPosted: wide.Most, Flags: debits | credits}
	limited := api.Account{Flags: debits | credits}
	gives := api.Account{CreditsPosted: wide.Most}
	takes := api.Account{DebitsPosted: wide.Most}
	for _, c := range []struct {
		debit, credit api.Account
		n             api.Num
		flags         int
		want          api.Result
	}{
		{whole, whole, wide.Of(1), debitMost | creditMost, 33},
		{whole, whole, wide.Of(1), creditMost, 34},
		{gives, whole, wide.Of(1), debitMost | creditMost, 34},
		{gives, whole, wide.Of(1), debitMost, 32},
		{whole, takes, wide.Of(1), creditMost, 32},
		{whole, whole, wide.Of(1), 0, 32},
		{whole, limited, wide.Of(1), 0, 32},
		{limited, whole, wide.Of(1), 0, 33},
		{limited, limited, wide.Of(1), 0, 33},
		{limited, limited, wide.Of(1), creditMost, 34},
		{gives, limited, wide.Of(1), 0, 34},
		{gives, takes, wide.Of(1), 0, 0},
		{limited, takes, wide.Most, debitMost, 33},
		{limited, takes, wide.Most, creditMost, 33},
		{takes, limited, wide.Most, debitMost, 33},
		{takes, limited, wide.Most, creditMost, 34},
		{takes, limited, wide.Most, 0, 32},
	} {
		for _, waits := range []int{0, pending, linked} {
			pair(t, c.debit, c.credit).must(pays(9, 1, 2, c.n, c.flags|waits), c.want)
		}
	}
}

// TestP16_1AmountsInAll has amounts that are the greatest number together, and then one that is too much.
func TestP16_1AmountsInAll(t *testing.T) {
	b := newBoth(t)
	for id := range uint64(4) {
		b.opens(id+1, 0)
	}
	left := value(wide.Most)
	for i, n := range []api.Num{{Hi: 1 << 63}, {Hi: 1 << 62, Lo: 7}, wide.Of(1), {Hi: 3}} {
		b.must(pays(uint64(10+i), 1, 2, n, pending*(i%2)), 0)
		left.Sub(left, value(n))
	}
	tooMuch := numOf(new(big.Int).Add(left, big.NewInt(1)))
	for _, waits := range []int{0, pending} {
		b.must(pays(20, 1, 2, tooMuch, waits), 32)
		b.must(pays(20, 1, 3, tooMuch, waits), 32)
		b.must(pays(20, 3, 2, tooMuch, waits), 32)
		b.must(pays(uint64(21+waits), 3, 4, wide.Of(3), waits), 0)
	}
	b.must(pays(30, 1, 2, numOf(left), 0), 0)
	for _, waits := range []int{0, pending} {
		b.must(pay(31, 1, 3, 1, waits), 32)
		b.must(pay(31, 3, 2, 1, waits), 32)
	}
	b.must(pays(31, 2, 1, wide.Most, 0), 0)
	b.asksAll()
}
