package engine_test

import (
	"math"
	"math/big"
	"math/rand"
	"slices"
	"testing"

	"bondstore/api"
	"bondstore/wide"
)

// chances picks things at random, alike in each run.
type chances struct {
	*rand.Rand
	ids int // how many names of transfers there are
}

func newChances(seed int64, ids int) chances { return chances{rand.New(rand.NewSource(seed)), ids} }

func (c chances) name() api.Num { return wide.Of(uint64(1 + c.Intn(c.ids))) }

// link is the flag of one that is of one chain with the next one, now and then.
func (c chances) link() int { return c.Intn(8) / 7 }

// length is how many items a batch has: most often so many as it may.
func (c chances) length() int { return []int{0, 1, 1, 2, 3, 4, 5, 7, 8, 9}[c.Intn(10)] }

// account is one; often it can be made.
func (c chances) account() api.Account {
	a := api.Account{Id: wide.Of(uint64(1 + c.Intn(40))), Ledger: 1 + c.Intn(9)/8, Code: 1, Flags: []int{0, 0, 0, debits, credits}[c.Intn(5)] | c.link()}
	switch c.Intn(30) {
	case 0:
		a.Flags |= 1 << c.Intn(5)
	case 1:
		a.Id = []api.Num{{}, wide.Most}[c.Intn(2)]
	case 2:
		a.Ledger, a.Code = c.Intn(2), c.Intn(2)
	}
	return a
}

// transfer is one that ends a pending one, or not; often it can be done.
func (c chances) transfer(kept []api.Kept) api.Transfer {
	x := api.Transfer{Id: c.name(), Flags: c.link()}
	if len(kept) > 0 && c.Intn(3) == 0 {
		held := kept[c.Intn(len(kept))].Move
		x.Pending = held.Id
		x.Flags |= []int{post, void}[c.Intn(2)]
		x.Amount = []api.Num{{}, {}, held.Amount, wide.Of(3)}[c.Intn(4)]
		return x
	}
	x.Debit, x.Credit = wide.Of(uint64(1+c.Intn(12))), wide.Of(uint64(1+c.Intn(12)))
	x.Amount, x.Ledger, x.Code = wide.Of(uint64(c.Intn(20))), 1, 1
	if c.Intn(20) == 0 {
		x.Amount = wide.Most
	}
	x.Flags |= []int{0, pending, pending, debitMost, creditMost, debitMost | pending}[c.Intn(6)]
	if x.Flags&pending != 0 {
		x.Timeout = c.Intn(9)
		x.Flags |= c.Intn(8) / 7 * closeDebit * (1 + c.Intn(3))
	}
	return x
}

func (c chances) accounts() []api.Account {
	list := make([]api.Account, c.length())
	for i := range list {
		list[i] = c.account()
	}
	return list
}

func (c chances) transfers(kept []api.Kept) []api.Transfer {
	list := make([]api.Transfer, c.length())
	for i := range list {
		list[i] = c.transfer(kept)
		// Those behind it may end it.
		if list[i].Flags&pending != 0 {
			kept = append(kept, api.Kept{Move: list[i]})
		}
	}
	return list
}

// request is one over a state; now and then one that can't be, or with more than its Op names.
func (c chances) request(m model) api.Request {
	q := api.Request{Op: 1 + c.Intn(3), Accounts: c.accounts(), Transfers: c.transfers(m.kept), Now: m.clock + c.Intn(5) - 1}
	if c.Intn(3) == 0 {
		q.Op = 2
	}
	if q.Op != 1 && c.Intn(4) != 0 {
		q.Accounts = nil
	}
	if q.Op != 2 && c.Intn(4) != 0 {
		q.Transfers = nil
	}
	switch c.Intn(20) {
	case 0:
		q.Op = c.Intn(9) - 1
	case 1:
		q.Now = []int{-1, 0, 1<<40 + 1, math.MaxInt}[c.Intn(4)]
	}
	return q
}

// fewer is a request with nothing but what its Op names, and of so few items that often all are done.
func (c chances) fewer(q api.Request) api.Request {
	n := 1 + c.Intn(3)
	q.Accounts, q.Transfers = q.Accounts[:min(n, len(q.Accounts))], q.Transfers[:min(n, len(q.Transfers))]
	if q.Op != 1 {
		q.Accounts = nil
	}
	if q.Op != 2 {
		q.Transfers = nil
	}
	return q
}

// TestP19_1EveryOrder does requests in chance orders, up to full states and beyond, and asks each state for its sums.
func TestP19_1EveryOrder(t *testing.T) {
	errs, came := map[api.Errno]int{}, map[api.Result]int{}
	for round := range 40 {
		c := newChances(int64(round), []int{20, 90, 4000}[round%3])
		b := newBoth(t)
		for range 80 {
			r := b.do(c.request(b.model))
			errs[r.Err]++
			for _, x := range r.Results {
				came[x]++
			}
			b.asksSums()
		}
		b.asksAll()
	}
	if errs[0] == 0 || errs[1] == 0 || len(errs) != 2 {
		t.Errorf("%v", errs)
	}
	for _, r := range []api.Result{0, 1, 2, 3, 4, 5, 6, 8, 9, 10, 11, 14, 18, 19, 20, 21, 22, 23, 24, 27, 28, 29, 30, 31, 32, 33, 34, 35} {
		if came[r] == 0 {
			t.Errorf("never %d: %v", r, came)
		}
	}
}

// TestP19_1Loaded loads states anew of what they tell, and goes on with both.
func TestP19_1Loaded(t *testing.T) {
	c := newChances(7, 200)
	for range 30 {
		b := newBoth(t)
		for range 25 {
			b.do(c.request(b.model))
		}
		anew := b.loaded()
		for range 25 {
			q := c.request(b.model)
			got, want := anew.do(q), b.do(q)
			if !isReply(got, want.Err, want.Results) {
				t.Fatalf("Do(%+v): %+v of the loaded state, not %+v", q, got, want)
			}
		}
		anew.asksAll()
	}
}

// asksSums asks whether debits and credits of each ledger are even, posted and pending, whether each account holds to its flags, and whether nothing waits behind its end.
func (b *both) asksSums() {
	b.t.Helper()
	sums := map[int][2]*big.Int{}
	for _, a := range b.model.accounts {
		s := sums[a.Ledger]
		if s[0] == nil {
			s = [2]*big.Int{new(big.Int), new(big.Int)}
			sums[a.Ledger] = s
		}
		s[0].Sub(s[0].Add(s[0], value(a.DebitsPosted)), value(a.CreditsPosted))
		s[1].Sub(s[1].Add(s[1], value(a.DebitsPending)), value(a.CreditsPending))
		debited, credited := new(big.Int).Add(value(a.DebitsPosted), value(a.DebitsPending)), new(big.Int).Add(value(a.CreditsPosted), value(a.CreditsPending))
		if a.Flags&debits != 0 && debited.Cmp(value(a.CreditsPosted)) > 0 || a.Flags&credits != 0 && credited.Cmp(value(a.DebitsPosted)) > 0 {
			b.t.Fatalf("%+v", a)
		}
	}
	for ledger, s := range sums {
		if s[0].Sign() != 0 || s[1].Sign() != 0 {
			b.t.Fatalf("ledger %d: %+v", ledger, b.model.accounts)
		}
	}
	for _, k := range b.model.kept {
		if k.Fate == 1 && k.Move.Timeout != 0 && k.Move.Born+k.Move.Timeout <= b.model.clock {
			b.t.Fatalf("at %d: %+v", b.model.clock, k)
		}
	}
}

func value(n api.Num) *big.Int {
	hi := new(big.Int).SetUint64(n.Hi)
	return hi.Add(hi.Lsh(hi, 64), new(big.Int).SetUint64(n.Lo))
}

// isWhole answers whether all items of a batch that was asked for were done, and none is linked.
func isWhole(q api.Request, r api.Reply) bool {
	for _, a := range q.Accounts {
		if a.Flags&linked != 0 {
			return false
		}
	}
	for _, x := range q.Transfers {
		if x.Flags&linked != 0 {
			return false
		}
	}
	return len(r.Results) > 0 && !slices.ContainsFunc(r.Results, func(x api.Result) bool { return x != 0 })
}

// again asks once more for a batch of which all items were done: each of them Exists, and nothing has changed.
func (b *both) again(q api.Request) {
	b.t.Helper()
	was := modelOf(b.s)
	b.must(q, slices.Repeat([]api.Result{10}, len(q.Accounts)+len(q.Transfers))...)
	if now := modelOf(b.s); !now.is(was) {
		b.t.Fatalf("Do(%+v) again: %+v, not %+v", q, now, was)
	}
}

// batches are such that are all done over a shop, one behind the other.
func batches() []api.Request {
	return []api.Request{
		opens(someone(20, 0)),
		opens(someone(21, debits), someone(22, credits), api.Account{Id: api.Num{Hi: 1}, Ledger: math.MaxUint32, Code: math.MaxUint16}),
		moves(pay(20, 1, 20, 30, 0)),
		moves(wait(21, 20, 21, 10, 5, 0), wait(22, 20, 2, 3, 1, closeDebit)),
		moves(end(23, 22, 0, void), end(24, 21, 4, post), pay(25, 21, 1, 1000, debitMost), pay(26, 20, 2, 0, debitMost), wait(27, 2, 20, 0, 1<<30, debitMost|closeCredit)),
		opens(someone(30, 0), someone(31, 0), someone(32, 0), someone(33, 0), someone(34, debits), someone(35, debits), someone(36, credits), someone(37, credits)),
		moves(end(30, 10, 0, post), end(31, 11, 9, void), pay(32, 30, 31, 1, 0), pay(33, 31, 32, 2, 0), pay(34, 32, 33, 3, 0), wait(35, 33, 34, 4, 0, 0), wait(36, 30, 35, 5, 2, closeDebit|closeCredit), pay(37, 36, 31, 6, 0)),
	}
}

// TestP19_2Again asks again for batches of all kinds, at once, behind all others, behind their ends, and of a loaded state.
func TestP19_2Again(t *testing.T) {
	b := shop(t)
	list := batches()
	for _, q := range list {
		r := b.do(q)
		if !isWhole(q, r) {
			t.Fatalf("Do(%+v): %+v", q, r)
		}
		b.again(q)
		b.again(q)
	}
	for _, now := range []int{8, 9, 12, 60, 1<<30 + 7, 1 << 40} {
		for _, q := range list {
			b.again(q)
		}
		b.must(tick(now))
	}
	anew := b.loaded()
	for _, q := range list {
		b.again(q)
		anew.again(q)
	}
	b.asksAll()
	anew.asksAll()
}

// TestP19_2Full asks again where there is room for no more.
func TestP19_2Full(t *testing.T) {
	b := shop(t)
	list := batches()
	for _, q := range list {
		b.do(q)
	}
	for id := uint64(1000); len(b.model.accounts) < 32; id++ {
		q := opens(someone(id, 0))
		b.must(q, 0)
		list = append(list, q)
	}
	for id := uint64(1000); len(b.model.kept) < 96; id++ {
		q := moves(pay(id, 1, 2, id, 0))
		b.must(q, 0)
		list = append(list, q)
	}
	for _, q := range list {
		b.again(q)
	}
	b.must(opens(someone(9, 0)), 35)
	b.must(moves(pay(9, 1, 2, 1, 0)), 35)
	b.asksAll()
}

// TestP19_2OtherBatches asks again for batches with one thing unlike, or with an item more: that is told, and done, of that one alone.
func TestP19_2OtherBatches(t *testing.T) {
	b := shop(t)
	b.must(opens(someone(20, 0), someone(21, debits)), 0, 0)
	b.must(opens(someone(20, 0), someone(21, credits), someone(22, 0)), 10, 11, 0)
	b.must(moves(pay(20, 1, 2, 5, 0), wait(21, 1, 2, 6, 9, 0)), 0, 0)
	b.must(moves(pay(20, 1, 2, 5, 0), wait(21, 1, 2, 6, 8, 0), pay(22, 1, 2, 1, 0)), 10, 11, 0)
	b.must(moves(pay(20, 1, 2, 5, 1), wait(21, 1, 2, 6, 9, 1), pay(22, 1, 2, 1, 0)), 10, 1, 1)
	b.asksAll()
}

// TestP19_2EveryOrder does requests in chance orders, and asks again, at once and later on, for all batches of which all items were done.
func TestP19_2EveryOrder(t *testing.T) {
	n := 0
	for round := range 30 {
		c := newChances(int64(100+round), []int{90, 4000}[round%2])
		b := newBoth(t)
		var whole []api.Request
		for range 60 {
			q := c.fewer(c.request(b.model))
			if isWhole(q, b.do(q)) {
				whole = append(whole, q)
				b.again(q)
			}
			if len(whole) > 0 {
				b.again(whole[c.Intn(len(whole))])
			}
		}
		b.do(tick(b.model.clock + 100))
		for _, q := range whole {
			b.again(q)
		}
		b.asksAll()
		n += len(whole)
	}
	if n < 100 {
		t.Errorf("%d batches were done whole", n)
	}
}
