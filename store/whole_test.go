package store_test

import (
	"math"
	"math/big"
	"slices"
	"testing"

	"bondstore/api"
	"bondstore/wide"
)

// wholes are how many sectors the stores of which the promises of the whole are asked have.
var wholes = []int{600, 601, 623, 1000, 4096}

// right holds books to what is promised of every state: sums, balances, flags and stamps, by what they tell of themselves alone.
func right(t *testing.T, l ledger) {
	t.Helper()
	type sums struct{ posted, pending big.Int }
	ledgers := map[int]*sums{}
	for _, a := range l.made {
		s := ledgers[a.Ledger]
		if s == nil {
			s = &sums{}
			ledgers[a.Ledger] = s
		}
		s.posted.Sub(s.posted.Add(&s.posted, value(a.DebitsPosted)), value(a.CreditsPosted))
		s.pending.Sub(s.pending.Add(&s.pending, value(a.DebitsPending)), value(a.CreditsPending))
		d, c := l.debited(a.Id), l.credited(a.Id)
		if value(a.DebitsPending).Cmp(d.waits) != 0 || value(a.DebitsPosted).Cmp(d.done) != 0 || value(a.CreditsPending).Cmp(c.waits) != 0 || value(a.CreditsPosted).Cmp(c.done) != 0 {
			t.Fatalf("balances of %+v: not %v, %v", a, d, c)
		}
		if a.Flags&debits != 0 && isAbove(d.all(), c.done) || a.Flags&credits != 0 && isAbove(c.all(), d.done) || isAbove(d.all(), value(mostNum)) || isAbove(c.all(), value(mostNum)) {
			t.Fatalf("%+v doesn't hold to its flags, or wraps", a)
		}
	}
	for n, s := range ledgers {
		if s.posted.Sign() != 0 || s.pending.Sign() != 0 {
			t.Fatalf("ledger %d is uneven: %+v", n, l.made)
		}
	}
	rises(t, l)
}

// rises asks whether stamps do: each is one's alone, and none is left out.
func rises(t *testing.T, l ledger) {
	t.Helper()
	var made, kept []int
	for _, a := range l.made {
		made = append(made, a.Stamp)
	}
	for _, k := range l.kept {
		kept = append(kept, k.Move.Stamp)
		if k.Fate == waiting && k.Move.Timeout != 0 && k.Move.Born+k.Move.Timeout <= l.clock {
			t.Fatalf("at %d still waiting: %+v", l.clock, k)
		}
	}
	all := append(slices.Clone(made), kept...)
	slices.Sort(all)
	for i, n := range all {
		if n != i+1 {
			t.Fatalf("stamps %v", all)
		}
	}
	if !slices.IsSorted(made) || !slices.IsSorted(kept) || len(all) != l.stamp {
		t.Fatalf("stamps %v, %v, the last one %d", made, kept, l.stamp)
	}
}

// chained holds a batch to its chains: of each all items are done, or none, and just those that are done are there, newly.
func chained(t *testing.T, was, now ledger, q api.Request, results []api.Result) {
	t.Helper()
	var links, there []bool
	for _, a := range q.Accounts {
		x, is := now.account(a.Id)
		links, there = append(links, accountLinked(a)), append(there, is && x.Stamp > was.stamp)
	}
	for _, x := range q.Transfers {
		at, is := now.at(x.Id)
		links, there = append(links, transferLinked(x)), append(there, is && now.kept[at].Move.Stamp > was.stamp)
	}
	done := 0
	for i, r := range results {
		if i > 0 && links[i-1] && (r == 0) != (results[i-1] == 0) || links[i] && i == len(links)-1 && r == 0 {
			t.Fatalf("%+v: %v", q, results)
		}
		if r == 0 {
			done++
			if !there[i] {
				t.Fatalf("%+v: %v, and the item %d isn't there", q, results, i)
			}
		}
	}
	if now.stamp != was.stamp+done || len(now.made)+len(now.kept) != len(was.made)+len(was.kept)+done {
		t.Fatalf("%+v: %v, and %d, then %d stamps", q, results, was.stamp, now.stamp)
	}
}

// ended holds transfers to their ends: what ended stays so, what waits ends by a request that names it or by time, which comes when it is to, and not ahead of that.
func ended(t *testing.T, was, now ledger) int {
	t.Helper()
	n := 0
	for i, k := range was.kept {
		x := now.kept[i]
		ends := slices.ContainsFunc(now.kept[len(was.kept):], func(e api.Kept) bool {
			return e.Move.Pending == k.Move.Id && (e.Move.Flags&post != 0 && x.Fate == posted || e.Move.Flags&void != 0 && x.Fate == voided)
		})
		due := k.Move.Timeout != 0 && k.Move.Born+k.Move.Timeout <= now.clock
		switch {
		case k.Fate != waiting && x.Fate != k.Fate, k.Fate == waiting && x.Fate == waiting && due, x.Asked != k.Asked, x.Move != k.Move:
			t.Fatalf("%+v, and then, at %d, %+v", k, now.clock, x)
		case k.Fate != waiting || x.Fate == waiting:
		case x.Fate == expired && !due || x.Fate != expired && !ends:
			t.Fatalf("%+v, and then, at %d, %+v", k, now.clock, x)
		default:
			n++
		}
	}
	return n
}

// isWhole answers whether all items of a batch were done, and none is linked.
func isWhole(q api.Request, p api.Reply) bool {
	return len(p.Results) > 0 && !slices.ContainsFunc(p.Results, func(r api.Result) bool { return r != 0 }) && !slices.ContainsFunc(q.Accounts, accountLinked) && !slices.ContainsFunc(q.Transfers, transferLinked)
}

// again asks once more for a batch: each item Exists, and nothing has changed.
func (b *both) again(q api.Request) {
	b.t.Helper()
	was := ledgerOf(b.s.Books())
	b.must(q, slices.Repeat([]api.Result{10}, len(q.Accounts)+len(q.Transfers))...)
	if now := ledgerOf(b.s.Books()); !now.is(was) {
		b.t.Fatalf("%+v again: %+v, not %+v", q, now, was)
	}
}

// counts tell what came of chance orders.
type counts struct {
	results                                map[api.Result]int
	errs                                   map[api.Errno]int
	ended, linked, again, there, not, asks int
}

func newCounts() *counts {
	return &counts{results: map[api.Result]int{}, errs: map[api.Errno]int{}}
}

// step does some bytes, of a store whose disk refuses nothing, and holds what came of them to all that is promised.
func (b *both) step(c chances, n *counts) {
	b.t.Helper()
	was := ledgerOf(b.s.Books())
	s := c.bytes(b.l)
	p := b.bytes(s)
	b.asks()
	now := ledgerOf(b.s.Books())
	right(b.t, now)
	n.ended += ended(b.t, was, now)
	n.errs[p.Err]++
	q, is := parse(s)
	if !is {
		return
	}
	for _, r := range p.Results {
		n.results[r]++
		if r == 1 {
			n.linked++
		}
	}
	chained(b.t, was, now, q, p.Results)
	if isWhole(q, p) {
		b.again(q)
		n.again++
	}
}

// TestP24_2EveryOrder does any bytes in chance orders, up to full books and beyond, over stores that save, and over such that don't: each reply is, byte by byte, the one that the chapters say, and each state is as it must be.
func TestP24_2EveryOrder(t *testing.T) {
	n, turns := newCounts(), 0
	for seed := range int64(60) {
		c := newChances(seed, []int{20, 90, 4000}[seed%3])
		b := newBoth(t, wholes[seed%5])
		if seed%7 > 1 {
			b = shop(t, wholes[seed%5])
		}
		for range 150 {
			switch k := c.Intn(20); {
			case k == 0 && seed%2 == 0:
				b.save(0)
			case k == 1 && seed%4 < 2:
				b.powerAnyhow()
			default:
				b.step(c, n)
			}
		}
		turns += b.s.Turn()
	}
	for r := range api.Result(36) {
		if n.results[r] == 0 {
			t.Errorf("never %d: %v", r, n.results)
		}
	}
	if n.errs[0] < 2000 || n.errs[3] < 5 || n.errs[4] < 500 || len(n.errs) != 3 {
		t.Errorf("%v", n.errs)
	}
	if n.ended < 200 || n.linked < 1000 || n.again < 150 || turns < 100 {
		t.Errorf("%+v, saved %d times", n, turns)
	}
}

// TestP24_2P1SavingPlaysNoPart does the same bytes over stores that save by themselves alone, always, and behind some, of which one is opened again, too.
func TestP24_2P1SavingPlaysNoPart(t *testing.T) {
	for seed := range int64(8) {
		c := newChances(900+seed, 200)
		a, b, d := newBoth(t, 600), newBoth(t, 600), newBoth(t, 4096)
		for i := range 150 {
			s := c.bytes(a.l)
			a.bytes(s)
			b.bytes(s)
			d.bytes(s)
			b.save(0)
			if i%7 == 0 {
				d.save(0)
				d.powerAnyhow()
			}
		}
		a.asks()
		if b.s.Turn() < 150 || d.s.Turn() < 20 {
			t.Errorf("turns %d, %d", b.s.Turn(), d.s.Turn())
		}
	}
}

// edge is a request over a shop, and the results that come of it.
type edge struct {
	q    api.Request
	want []api.Result
}

func edges() []edge {
	a := func(change func(*api.Account)) api.Account { return butA(someone(40, 0), change) }
	x := func(change func(*api.Transfer)) api.Transfer { return butT(pay(40, 1, 2, 5, 0), change) }
	none := api.Num{}
	return []edge{
		{opens(
			a(func(a *api.Account) { a.Flags = closed }), a(func(a *api.Account) { a.Id = none }), a(func(a *api.Account) { a.Id = wide.Most }), a(func(a *api.Account) { a.Flags = debits | credits }),
			a(func(a *api.Account) { a.CreditsPosted = wide.Of(1) }), a(func(a *api.Account) { a.Ledger = 0 }), a(func(a *api.Account) { a.Code = 0 }),
		), []api.Result{3, 4, 5, 6, 7, 8, 9}},
		{opens(someone(1, 0), someone(1, debits), someone(4, 0), someone(40, linked)), []api.Result{10, 11, 10, 2}},
		{moves(
			x(func(x *api.Transfer) { x.Flags = 256 }), x(func(x *api.Transfer) { x.Id = none }), x(func(x *api.Transfer) { x.Id = wide.Most }), x(func(x *api.Transfer) { x.Flags = pending | post }),
			x(func(x *api.Transfer) { x.Born = 1 }), x(func(x *api.Transfer) { x.Timeout = 1 }), x(func(x *api.Transfer) { x.Debit = none }), x(func(x *api.Transfer) { x.Credit = none }),
		), []api.Result{3, 4, 5, 6, 7, 17, 12, 13}},
		{moves(
			x(func(x *api.Transfer) { x.Credit = x.Debit }), x(func(x *api.Transfer) { x.Pending = wide.Of(10) }), x(func(x *api.Transfer) { x.Amount = none }), x(func(x *api.Transfer) { x.Ledger = 0 }),
			x(func(x *api.Transfer) { x.Code = 0 }), x(func(x *api.Transfer) { x.Debit = wide.Of(99) }), x(func(x *api.Transfer) { x.Credit = wide.Of(99) }), x(func(x *api.Transfer) { x.Credit = wide.Of(5) }),
		), []api.Result{14, 15, 18, 8, 9, 19, 20, 21}},
		{moves(
			x(func(x *api.Transfer) { x.Ledger = 2 }), pay(41, 4, 1, 1, 0), pay(41, 1, 4, 1, 0), pay(41, 2, 1, 21, 0),
			pay(41, 3, 1, 21, 0), pay(43, 1, 3, 22, 0), pay(18, 2, 1, 5, 0), pay(18, 2, 1, 6, 0),
		), []api.Result{22, 30, 31, 33, 0, 34, 10, 11}},
		{moves(
			end(42, 0, 0, post), end(42, 99, 0, post), end(42, 18, 0, void), butT(end(42, 10, 0, post), func(x *api.Transfer) { x.Code = 2 }),
			end(42, 10, 11, post), end(42, 10, 9, void), end(42, 13, 0, post), end(42, 16, 0, void),
		), []api.Result{16, 23, 24, 25, 26, 26, 27, 28}},
		{moves(
			end(42, 15, 0, post), end(42, 11, 0, post), end(43, 11, 0, void), pay(44, 1, 2, 1, linked),
			pay(45, 1, 4, 1, linked), pay(46, 1, 2, 1, 0), x(func(x *api.Transfer) { x.Amount = wide.Most }), pay(47, 1, 2, 3, linked),
		), []api.Result{29, 0, 27, 1, 31, 1, 32, 2}},
	}
}

// TestP24_2P1Edges does requests of which all kinds of results come.
func TestP24_2P1Edges(t *testing.T) {
	b := shop(t, 600)
	came := map[api.Result]bool{}
	for _, x := range edges() {
		b.must(x.q, x.want...)
		right(t, ledgerOf(b.s.Books()))
		for _, r := range x.want {
			came[r] = true
		}
	}
	if len(came) != 35 || came[35] {
		t.Errorf("%d kinds: %v", len(came), came)
	}
}

// full is a store whose books have all the accounts and transfers that there may be.
func full(t *testing.T, sectors int) *both {
	t.Helper()
	b := newBoth(t, sectors)
	for id := uint64(1); id < 32; id += 4 {
		b.mustAll(opens(someone(id, 0), someone(id+1, 0), someone(id+2, 0), someone(id+3, 0)))
	}
	for id := uint64(100); id < 196; id += 8 {
		var q api.Request
		for i := range uint64(8) {
			q = moves(append(q.Transfers, butT(wait(id+i, 1+i, 9+i, id, int(id+i), 0), func(x *api.Transfer) { x.Flags = []int{0, pending, pending}[i%3]; x.Timeout *= x.Flags / 2 }))...)
		}
		b.mustAll(q)
	}
	return b
}

// TestP24_2P1Full has books with no more room: they are saved, opened, and go on.
func TestP24_2P1Full(t *testing.T) {
	for _, n := range wholes {
		b := full(t, n)
		b.must(opens(someone(50, 0), someone(1, 0), someone(2, debits)), 35, 10, 11)
		b.must(moves(pay(900, 1, 2, 3, 0), end(901, 101, 0, post), pay(100, 1, 2, 3, 0), pay(900, 1, 2, 0, 0)), 35, 35, 11, 18)
		b.save(0)
		b.powerAnyhow()
		b.must(moves(pay(900, 1, 2, 3, 0)), 35)
		for now := range 260 {
			b.mustAll(tick(now))
			if now%20 == 0 {
				b.powerAnyhow()
				right(t, ledgerOf(b.s.Books()))
			}
		}
		for _, q := range everything() {
			b.do(q)
		}
		if turn := b.s.Turn(); n < 700 && turn < 3 || b.s.Seq() != 8+12+2+1+260 {
			t.Errorf("%d sectors: turn %d, seq %d", n, turn, b.s.Seq())
		}
	}
}

// TestP24_2P3Sums moves amounts by the greatest number between accounts of two ledgers, in all ways, and holds each state to its sums.
func TestP24_2P3Sums(t *testing.T) {
	b := newBoth(t, 600)
	other := func(id uint64, flags int) api.Account {
		return butA(someone(id, flags), func(a *api.Account) { a.Ledger = 2 })
	}
	b.mustAll(opens(someone(1, 0), someone(2, debits), someone(3, credits), other(4, 0), other(5, debits), other(6, credits)))
	amounts := []api.Num{wide.Of(1), wide.Of(1), wide.Of(7), wide.Of(7), {Hi: 1}, {Hi: 1 << 63}, {Hi: math.MaxUint64}, {Lo: math.MaxUint64}, wide.Most, {}}
	c, came := newChances(33, 1), map[api.Result]int{}
	for i := range 400 {
		from := 3 * c.Intn(2)
		debit := from + 1 + c.Intn(3)
		credit := from + 1 + (debit-from+c.Intn(2))%3
		x := pay(uint64(100+i%150), uint64(debit), uint64(credit), 0, []int{0, 0, pending, debitMost, creditMost, pending | debitMost | creditMost}[c.Intn(6)])
		x.Amount, x.Ledger = amounts[c.Intn(len(amounts))], 1+from/3
		if n := len(b.l.kept); n > 0 && c.Intn(3) == 0 {
			x = end(uint64(100+i%150), b.l.kept[c.Intn(n)].Move.Id.Lo, 0, []int{post, post, void}[c.Intn(3)])
		}
		for _, r := range b.do(moves(x)).Results {
			came[r]++
		}
		right(t, told(b.s))
		if i%20 == 0 {
			b.save(0)
			b.powerAnyhow()
		}
	}
	for _, r := range []api.Result{0, 27, 28, 32, 33, 34} {
		if came[r] == 0 {
			t.Errorf("never %d: %v", r, came)
		}
	}
}

// TestP24_2P7Again asks again for batches that were done, at once, behind others, behind their ends, and behind crashes.
func TestP24_2P7Again(t *testing.T) {
	b := shop(t, 600)
	list := []api.Request{
		opens(someone(20, 0)), opens(someone(21, debits), someone(22, credits), api.Account{Id: api.Num{Hi: 1}, Ledger: math.MaxUint32, Code: math.MaxUint16}),
		moves(pay(20, 1, 20, 30, 0)), moves(wait(21, 20, 21, 10, 5, 0), wait(22, 20, 2, 3, 1, closeDebit)),
		moves(end(23, 22, 0, void), end(24, 21, 4, post), pay(25, 21, 1, 1000, debitMost), pay(26, 20, 2, 0, debitMost), wait(27, 2, 20, 0, 1<<30, debitMost|closeCredit)),
		moves(end(30, 10, 0, post), end(31, 11, 9, void)),
	}
	for _, q := range list {
		b.mustAll(q)
		b.again(q)
	}
	for _, now := range []int{8, 9, 12, 60, 1<<30 + 7, 1 << 40} {
		for _, q := range list {
			b.again(q)
		}
		b.powerAnyhow()
		b.mustAll(tick(now))
		b.save(0)
	}
	// Of what is linked the last item alone is asked for as it was.
	b.must(moves(pay(40, 1, 2, 1, linked), pay(41, 1, 2, 1, 0)), 0, 0)
	b.must(moves(pay(40, 1, 2, 1, linked), pay(41, 1, 2, 1, 0)), 10, 1)
	b.must(moves(pay(40, 1, 2, 1, 0), pay(41, 1, 2, 1, 0)), 10, 10)
}

// TestP24_2P4Chains has chains that fail at each of their items, of both kinds, beside others that are done.
func TestP24_2P4Chains(t *testing.T) {
	for n := 1; n < 8; n++ {
		for wrong := range n + 1 {
			b := shop(t, 600)
			made, paid := opens(someone(90, 0)), moves(pay(90, 1, 2, 1, 0))
			want := []api.Result{0}
			for i := range n {
				a, x := someone(uint64(50+i), linked), pay(uint64(50+i), 1, 2, uint64(1+i), linked)
				if i == n-1 {
					a.Flags, x.Flags = 0, 0
				}
				r := api.Result(0)
				if wrong < n {
					r = 1
				}
				if i == wrong {
					a.Code, x.Code, r = 0, 0, 9
				}
				made.Accounts, paid.Transfers, want = append(made.Accounts, a), append(paid.Transfers, x), append(want, r)
			}
			was := b.l.stamp
			b.must(made, want...)
			b.must(paid, want...)
			if done := b.l.stamp - was; wrong < n && done != 2 || wrong == n && done != 2*(n+1) {
				t.Errorf("%d of %d wrong: %d done", wrong, n, done)
			}
			right(t, ledgerOf(b.s.Books()))
			b.powerAnyhow()
		}
	}
}

// TestP24_2P5Ends lets what waits end in each way, and tries all others behind that.
func TestP24_2P5Ends(t *testing.T) {
	ends := []api.Request{moves(end(20, 10, 3, post)), moves(end(21, 10, 0, post)), moves(end(22, 10, 0, void)), moves(end(23, 10, 8, void)), tick(15), tick(16), tick(1 << 40)}
	wants := []api.Result{27, 27, 28, 28, 0, 29, 29}
	for i, q := range ends {
		b := newBoth(t, 600)
		b.mustAll(opens(someone(1, 0), someone(2, 0)), tick(10), moves(wait(10, 1, 2, 8, 6, 0)), tick(14))
		b.powerAnyhow()
		b.mustAll(q)
		b.powerAnyhow()
		for j, x := range []api.Request{moves(end(30, 10, 3, post)), moves(end(31, 10, 0, post)), moves(end(32, 10, 0, void))} {
			if i == 4 {
				// A tick ahead of its time it still waits.
				if k := b.s.Books().Keeps()[0]; j == 0 && k.Fate != waiting {
					t.Errorf("%+v at 15", k)
				}
				b.mustAll(tick(16))
				b.must(x, 29)
				continue
			}
			b.must(x, wants[i])
		}
		b.mustAll(tick(1 << 40))
		if k := b.s.Books().Keeps()[0]; k.Fate == waiting || b.s.Books().Accounts()[0].DebitsPending != (api.Num{}) {
			t.Errorf("%+v", k)
		}
	}
}

// TestP24_2P1Bytes asks for bytes of any kind, which a request may be or not.
func TestP24_2P1Bytes(t *testing.T) {
	b, c := shop(t, 600), newChances(5, 60)
	is, not := 0, 0
	for range 6000 {
		op, n := c.Intn(7), 1+c.Intn(9)
		size := 1 + itemSizes[op]
		if mostItems[op] > 0 {
			size = 2 + n*itemSizes[op]
		}
		s := make([]byte, size+c.Intn(6)/5*(c.Intn(3)-1))
		if c.Intn(2) == 0 {
			c.Read(s)
		}
		copy(s, []byte{byte(op), byte(n)})
		if _, ok := parse(string(s)); ok {
			is++
		} else {
			not++
		}
		b.bytes(string(s))
	}
	b.asks()
	if is < 2000 || not < 1500 {
		t.Errorf("%d requests, %d none", is, not)
	}
}
