package books_test

import (
	"math"
	"math/big"
	"math/rand"
	"testing"

	"bondstore/api"
	"bondstore/books"
	"bondstore/wide"
)

// amounts are numbers of 128 bits at which a word, or all, turns.
func amounts() []api.Num {
	return []api.Num{
		{}, wide.Of(1), wide.Of(2), wide.Of(7), {Lo: 1 << 63}, {Lo: math.MaxUint64}, {Hi: 1}, {Hi: 1, Lo: 1},
		{Hi: 1 << 63}, {Hi: 1<<63 - 1, Lo: math.MaxUint64}, {Hi: math.MaxUint64}, {Hi: math.MaxUint64, Lo: math.MaxUint64 - 1}, wide.Most,
	}
}

// value reads a number in another way than the program does.
func value(a api.Num) *big.Int {
	n := new(big.Int).SetUint64(a.Hi)
	return n.Lsh(n, 64).Add(n, new(big.Int).SetUint64(a.Lo))
}

func together(list ...api.Num) *big.Int {
	all := new(big.Int)
	for _, a := range list {
		all.Add(all, value(a))
	}
	return all
}

// haveOf is how much there is, of a credit less two debits; or the other way round.
func haveOf(posted, pendingOther, postedOther api.Num) *big.Int {
	have := value(posted)
	have.Sub(have, together(pendingOther, postedOther))
	if have.Sign() < 0 {
		return new(big.Int)
	}
	return have
}

func checkHave(t *testing.T, a api.Account) {
	t.Helper()
	if got, want := books.Have(a, true), haveOf(a.CreditsPosted, a.DebitsPending, a.DebitsPosted); value(got).Cmp(want) != 0 {
		t.Errorf("Have of %+v to be debited: %v, not %v", a, got, want)
	}
	if got, want := books.Have(a, false), haveOf(a.DebitsPosted, a.CreditsPending, a.CreditsPosted); value(got).Cmp(want) != 0 {
		t.Errorf("Have of %+v to be credited: %v, not %v", a, got, want)
	}
}

// numOf is a number that isn't above the greatest one.
func numOf(n *big.Int) api.Num {
	hi := new(big.Int).Rsh(n, 64)
	lo := new(big.Int).Sub(n, new(big.Int).Lsh(hi, 64))
	return api.Num{Hi: hi.Uint64(), Lo: lo.Uint64()}
}

// debitOf and creditOf are what Debit and Credit are to answer.
func debitOf(a api.Account, n api.Num, pending bool) (api.Account, api.Result) {
	most := value(wide.Most)
	if together(a.DebitsPending, a.DebitsPosted, n).Cmp(most) > 0 {
		return a, 32
	}
	if a.Flags&2 == 2 && value(n).Cmp(haveOf(a.CreditsPosted, a.DebitsPending, a.DebitsPosted)) > 0 {
		return a, 33
	}
	if pending {
		a.DebitsPending = numOf(together(a.DebitsPending, n))
	} else {
		a.DebitsPosted = numOf(together(a.DebitsPosted, n))
	}
	return a, 0
}

// turned is an account whose debits are its credits, and the other way round, its flags too.
func turned(a api.Account) api.Account {
	a.DebitsPending, a.CreditsPending = a.CreditsPending, a.DebitsPending
	a.DebitsPosted, a.CreditsPosted = a.CreditsPosted, a.DebitsPosted
	flags := a.Flags &^ 6
	if a.Flags&2 == 2 {
		flags |= 4
	}
	if a.Flags&4 == 4 {
		flags |= 2
	}
	a.Flags = flags
	return a
}

func creditOf(a api.Account, n api.Num, pending bool) (api.Account, api.Result) {
	b, r := debitOf(turned(a), n, pending)
	if r == 33 {
		r = 34
	}
	return turned(b), r
}

func checkChange(t *testing.T, a api.Account, n api.Num, pending bool) api.Result {
	t.Helper()
	got, r := books.Debit(a, n, pending)
	want, should := debitOf(a, n, pending)
	if got != want || r != should {
		t.Errorf("Debit(%+v, %v, %v): %+v, %d, not %+v, %d", a, n, pending, got, r, want, should)
	}
	got, second := books.Credit(a, n, pending)
	want, should = creditOf(a, n, pending)
	if got != want || second != should {
		t.Errorf("Credit(%+v, %v, %v): %+v, %d, not %+v, %d", a, n, pending, got, second, want, should)
	}
	return r
}

func TestP15_1Example(t *testing.T) {
	a := api.Account{Id: wide.Of(1), Flags: api.AcctDebits}
	if b, r := books.Debit(a, wide.Of(1), false); r != 33 || b != a {
		t.Errorf("%+v, %d", b, r)
	}
}

// TestP15_1HaveOfEdges asks how much there is, over all edges of the four balances.
func TestP15_1HaveOfEdges(t *testing.T) {
	for _, p := range amounts() {
		for _, q := range amounts() {
			for _, r := range amounts() {
				for _, s := range amounts() {
					checkHave(t, api.Account{DebitsPending: p, DebitsPosted: q, CreditsPending: r, CreditsPosted: s})
				}
			}
		}
	}
}

// TestP15_1ChangeOfEdges debits and credits over all edges of three balances and the amount, with each limit.
func TestP15_1ChangeOfEdges(t *testing.T) {
	came := map[api.Result]int{}
	for _, p := range amounts() {
		for _, q := range amounts() {
			for _, s := range amounts() {
				for _, n := range amounts() {
					for _, flags := range []int{0, 2, 4, 6} {
						a := api.Account{DebitsPending: p, DebitsPosted: q, CreditsPosted: s, Flags: flags}
						came[checkChange(t, a, n, flags == 2)]++
						came[checkChange(t, turned(a), n, flags != 2)]++
						came[checkChange(t, a, n, s.Lo%2 == 0)]++
					}
				}
			}
		}
	}
	if came[api.Done] == 0 || came[api.Overflow] == 0 || came[api.ExceedsCredits] == 0 || len(came) != 3 {
		t.Errorf("%v", came)
	}
}

// TestP15_1ChangeByOne debits and credits about what there is just so.
func TestP15_1ChangeByOne(t *testing.T) {
	for pending := range uint64(4) {
		for posted := range uint64(4) {
			for other := range uint64(9) {
				for n := range uint64(9) {
					for flags := range 16 {
						a := api.Account{DebitsPending: wide.Of(pending), DebitsPosted: wide.Of(posted), CreditsPosted: wide.Of(other), CreditsPending: wide.Of(3), Flags: flags}
						for _, a := range []api.Account{a, turned(a)} {
							checkHave(t, a)
							checkChange(t, a, wide.Of(n), true)
							checkChange(t, a, wide.Of(n), false)
						}
					}
				}
			}
		}
	}
}

// TestP15_1OtherFlags has flags that don't limit anything, and those that do among others.
func TestP15_1OtherFlags(t *testing.T) {
	for _, flags := range append(numbers(), -1, -2, -3, -5, -7, ^2, ^4, 9, 15) {
		a := account(wide.Of(5), 9)
		a.Flags = flags
		for _, n := range amounts() {
			checkChange(t, a, n, true)
			checkChange(t, a, n, false)
			checkChange(t, api.Account{Flags: flags}, n, true)
			checkChange(t, api.Account{Flags: flags}, n, false)
		}
	}
}

// TestP15_1OverflowIsFirst has amounts that are too much for both reasons.
func TestP15_1OverflowIsFirst(t *testing.T) {
	a := api.Account{DebitsPending: wide.Of(1), CreditsPending: wide.Of(1), Flags: api.AcctDebits | api.AcctCredits}
	for _, pending := range []bool{false, true} {
		if b, r := books.Debit(a, wide.Most, pending); r != 32 || b != a {
			t.Errorf("%+v, %d", b, r)
		}
		if b, r := books.Credit(a, wide.Most, pending); r != 32 || b != a {
			t.Errorf("%+v, %d", b, r)
		}
	}
}

func TestP15_1ChangeByChance(t *testing.T) {
	chance := rand.New(rand.NewSource(3))
	some := func() api.Num {
		return api.Num{Hi: chance.Uint64() >> chance.Intn(65), Lo: chance.Uint64() >> chance.Intn(65)}
	}
	for range 60000 {
		a := api.Account{
			Id: some(), DebitsPending: some(), DebitsPosted: some(), CreditsPending: some(), CreditsPosted: some(),
			Ledger: chance.Int(), Code: chance.Int(), Flags: chance.Intn(16), Stamp: chance.Int(),
		}
		checkHave(t, a)
		checkChange(t, a, some(), true)
		checkChange(t, a, some(), false)
	}
}
