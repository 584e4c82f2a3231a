package hold_test

import (
	"math"
	"math/big"
	"math/rand"
	"slices"
	"testing"

	"bondstore/api"
	"bondstore/wide"
)

// corner is a state in which something is wrong with the transfers that end 10, of account 1 and account 2.
type corner struct {
	held   int // 0: 10 isn't there; 1: it doesn't wait; else its fate and 1
	own    int // what 10 closes
	others int // 1: something else has closed account 1; 2: account 2; 3: both
	full   bool
	kept   int // 0: none of the name 9 is kept; 1: one is that is asked for again; 2: another one
}

// add keeps one more transfer, of a fate.
func (m *model) add(asked, done api.Transfer, fate int) {
	m.stamp++
	done.Stamp, done.Born = m.stamp, m.clock
	m.kept = append(m.kept, api.Kept{Asked: asked, Move: done, Fate: fate})
}

// adds keeps one that is done as it was asked for.
func (m *model) adds(x api.Transfer, fate int) { m.add(x, x, fate) }

// stateOf makes the state of a corner, as it is to be for a transfer.
func stateOf(t *testing.T, c corner, x api.Transfer) *both {
	t.Helper()
	b := newBoth(t)
	for id := range uint64(3) {
		b.opens(id+1, 0)
	}
	m := &b.model
	held := wait(10, 1, 2, 10, 0, c.own)
	if c.held == 1 {
		held.Flags = 0
	}
	if c.held > 0 {
		m.adds(held, c.held-1)
	}
	if c.held == posted+1 {
		m.add(end(11, 10, 0, post), pay(11, 1, 2, 10, post), 0)
	}
	if c.others&1 == 1 {
		m.adds(wait(12, 1, 3, 1, 0, closeDebit), waiting)
	}
	if c.others&2 == 2 {
		m.adds(wait(13, 3, 2, 1, 0, closeCredit), waiting)
	}
	if c.kept > 0 {
		asked := x
		asked.Code += c.kept - 1
		// The name of one that can't be done is never there.
		m.add(asked, pay(9, 1, 2, 7, post), 0)
	}
	for c.full && len(m.kept) < 96 {
		m.adds(pay(1000+uint64(len(m.kept)), 1, 3, 5, 0), 0)
	}
	return b.loaded()
}

// corners are all states in which some things are wrong.
func corners() []corner {
	var list []corner
	for held := range 6 {
		for own := range 4 {
			for others := range 4 {
				// What is closed by one that waits, or was posted, nobody else closes.
				if own&others != 0 && (held == waiting+1 || held == posted+1) {
					continue
				}
				for full := range 2 {
					for kept := range 3 {
						list = append(list, corner{held, own * closeDebit, others, full == 1, kept})
					}
				}
			}
		}
	}
	return list
}

// cornerTransfers are transfers that end 10, with which something is wrong, or nothing.
func cornerTransfers() []api.Transfer {
	var list []api.Transfer
	for _, flags := range []int{post, void} {
		for _, amount := range []uint64{0, 4, 11} {
			x := end(9, 10, amount, flags)
			list = append(list, x,
				but(x, func(x *api.Transfer) { x.Credit = wide.Of(3) }),
				but(x, func(x *api.Transfer) { x.Ledger = -1 }),
			)
		}
	}
	return list
}

// TestP17_1TheFirstThatIsWrong has transfers with which two things are wrong, or more, in each way: the first one is told.
func TestP17_1TheFirstThatIsWrong(t *testing.T) {
	came := map[api.Result]int{}
	two := map[[2]api.Result]bool{}
	for _, c := range corners() {
		for _, x := range cornerTransfers() {
			b := stateOf(t, c, x)
			wrongs := slices.DeleteFunc(b.model.wrongs(x), func(r api.Result) bool { return r == 0 })
			for i := 1; i < len(wrongs); i++ {
				two[[2]api.Result(wrongs[i-1:])] = true
			}
			came[b.do(x)]++
		}
	}
	wantsAll(t, came, 0, 8, 10, 11, 23, 24, 25, 26, 27, 28, 29, 30, 31, 35)
	for _, p := range [][2]api.Result{{8, 10}, {8, 11}, {8, 23}, {8, 24}, {10, 23}, {11, 23}, {10, 24}, {11, 24}, {10, 25}, {11, 25}, {10, 27}, {11, 28}, {10, 26}, {10, 30}, {11, 31}, {11, 35}, {24, 25}, {24, 26}, {24, 30}, {24, 35}, {25, 27}, {25, 28}, {25, 29}, {25, 26}, {25, 30}, {25, 35}, {27, 26}, {28, 26}, {29, 26}, {27, 31}, {28, 30}, {29, 31}, {27, 35}, {28, 35}, {29, 35}, {26, 30}, {26, 31}, {26, 35}, {30, 31}, {30, 35}, {31, 35}} {
		if !two[p] {
			t.Errorf("never both %d and %d", p[0], p[1])
		}
	}
}

// town makes accounts of all flags that may be asked for, in two ledgers: 1 to 4 and 5 to 8.
func town(b *both) {
	for id := range uint64(8) {
		b.open(api.Account{Id: wide.Of(id + 1), Ledger: 1 + int(id/4), Code: 3, Flags: []int{0, debits, credits, 0}[id%4]})
	}
}

// chances picks things at random, alike in each run.
type chances struct {
	*rand.Rand
	ids   int  // how many names there are
	great bool // whether amounts are great
}

func (c chances) name() api.Num { return wide.Of(uint64(1 + c.Intn(c.ids))) }

func (c chances) amount() api.Num {
	if c.great {
		// Half of them are of all words, so that sums go beyond the greatest number.
		return api.Num{Hi: c.Uint64() >> (c.Intn(65) * c.Intn(2)), Lo: c.Uint64()}
	}
	return wide.Of(uint64(1 + c.Intn(20)))
}

// mover is a transfer that ends none; often it can be done.
func (c chances) mover() api.Transfer {
	ledger, debit := c.Intn(2), c.Intn(4)
	credit := (debit + 1 + c.Intn(3)) % 4
	x := api.Transfer{
		Id:     c.name(),
		Debit:  wide.Of(uint64(1 + 4*ledger + debit)),
		Credit: wide.Of(uint64(1 + 4*ledger + credit)),
		Amount: c.amount(),
		Ledger: 1 + ledger,
		Code:   1 + c.Intn(2),
		Flags:  []int{0, pending, pending, debitMost, creditMost, debitMost | pending}[c.Intn(6)] | c.Intn(2),
	}
	if x.Flags&pending != 0 {
		x.Timeout = c.Intn(9)
		if c.Intn(12) == 0 {
			x.Flags |= closeDebit * (1 + c.Intn(3))
		}
	}
	return x
}

// ender is a transfer that ends another one, often one that waits, often in full.
func (c chances) ender(kept []api.Kept) api.Transfer {
	var held api.Transfer
	if len(kept) > 0 {
		held = kept[c.Intn(len(kept))].Move
	}
	for range 4 {
		if held.Flags&pending == 0 && len(kept) > 0 {
			held = kept[c.Intn(len(kept))].Move
		}
	}
	x := api.Transfer{Id: c.name(), Pending: held.Id, Flags: []int{post, void}[c.Intn(2)] | c.Intn(2)}
	switch c.Intn(6) {
	case 0:
		x.Amount = held.Amount
	case 1:
		x.Amount = api.Num{Hi: held.Amount.Hi / 2, Lo: held.Amount.Lo / 3}
	case 2:
		x.Debit, x.Credit, x.Ledger, x.Code = held.Debit, held.Credit, held.Ledger, held.Code
	}
	switch c.Intn(40) {
	case 0:
		x.Amount = c.amount()
	case 1:
		x.Debit = c.name()
	case 2:
		x.Ledger, x.Code = c.Intn(3), c.Intn(3)
	case 3:
		x.Pending = c.name()
	case 4:
		x.Flags = c.Intn(16)
	case 5:
		x.Timeout, x.Born = c.Intn(2), c.Intn(2)
	case 6:
		x.Id = []api.Num{{}, wide.Most}[c.Intn(2)]
	}
	return x
}

// step lets time go on, or does a transfer, and answers what came of it.
func (c chances) step(b *both) api.Result {
	b.t.Helper()
	switch c.Intn(8) {
	case 0:
		b.time(b.model.clock + c.Intn(5) - 1)
		return 0
	case 1, 2, 3:
		return b.do(c.ender(b.model.kept))
	}
	return b.do(c.mover())
}

// TestP17_1EveryOrder does all in chance orders, up to full states and beyond.
func TestP17_1EveryOrder(t *testing.T) {
	came := map[api.Result]int{}
	random := rand.New(rand.NewSource(17))
	for round := range 60 {
		c := chances{random, []int{20, 90, 4000}[round%3], round%2 == 1}
		b := newBoth(t)
		town(b)
		for range 350 {
			came[c.step(b)]++
		}
		b.asksAll()
	}
	wantsAll(t, came, 0, 4, 5, 6, 7, 10, 11, 12, 15, 16, 17, 23, 24, 25, 26, 27, 28, 29, 30, 31, 32, 33, 34, 35)
}

// few are calls over two accounts, of a name each time.
func few() []func(b *both, id uint64) bool {
	does := func(x api.Transfer) func(*both, uint64) bool {
		return func(b *both, id uint64) bool {
			x.Id = wide.Of(id)
			return b.do(x) == 0
		}
	}
	later := func(ticks int) func(*both, uint64) bool {
		return func(b *both, _ uint64) bool {
			b.time(b.model.clock + ticks)
			return true
		}
	}
	list := []func(*both, uint64) bool{later(1), later(2), does(wait(0, 1, 2, 3, 2, 0)), does(wait(0, 2, 1, 2, 1, closeDebit))}
	for held := range uint64(2) {
		list = append(list, does(end(0, held+1, 0, post)), does(end(0, held+1, 1, post)), does(end(0, held+1, 0, void)))
	}
	return list
}

// each does each row of so many of a few calls, and asks something behind each of them.
func each(b *both, depth int, id uint64, ask func()) {
	b.t.Helper()
	for _, call := range few() {
		b.tries(func() {
			if call(b, id) {
				ask()
				if depth > 1 {
					each(b, depth-1, id+1, ask)
				}
			}
		})
	}
}

// TestP17_1EachFew does each six calls of a few, one behind the other.
func TestP17_1EachFew(t *testing.T) {
	b := newBoth(t)
	b.opens(1, 0)
	b.opens(2, debits)
	n := 0
	each(b, 6, 1, func() { n++ })
	if n < 3000 {
		t.Errorf("%d calls", n)
	}
}

// TestP17_1Loaded loads states anew of what they tell, and goes on with both.
func TestP17_1Loaded(t *testing.T) {
	c := chances{rand.New(rand.NewSource(2)), 90, false}
	for range 30 {
		b := newBoth(t)
		town(b)
		for range 50 {
			c.step(b)
		}
		anew := b.loaded()
		for range 50 {
			now := b.model.clock + c.Intn(4)
			if got, want := anew.time(now), b.time(now); got != want {
				t.Fatalf("Time(%d): %d of the loaded state, not %d", now, got, want)
			}
			x := c.mover()
			if c.Intn(2) == 0 {
				x = c.ender(b.model.kept)
			}
			if got, want := anew.do(x), b.do(x); got != want {
				t.Fatalf("Do(%+v): %d of the loaded state, not %d", x, got, want)
			}
		}
		anew.asksAll()
	}
}

// watch remembers what became of each transfer that waited, and the time at which it was last looked at.
type watch struct {
	fates map[api.Num]int
	clock int
}

// looks asks whether each pending one is what it may be, at this time, and behind what was seen of it.
func (w *watch) looks(b *both) {
	b.t.Helper()
	now := b.s.Clock()
	for _, k := range b.s.Keeps() {
		if k.Move.Flags&pending == 0 {
			continue
		}
		was, ends := w.fates[k.Move.Id], k.Move.Born+k.Move.Timeout
		isOver := k.Move.Timeout != 0 && ends <= now
		switch {
		case was > waiting && k.Fate != was:
			b.t.Fatalf("%+v came to another end, %d", k, was)
		case k.Fate == waiting && isOver:
			b.t.Fatalf("%+v waits still, at %d", k, now)
		case k.Fate == expired && was == waiting && (!isOver || w.clock >= ends):
			b.t.Fatalf("%+v has expired from %d to %d", k, w.clock, now)
		case k.Fate < waiting || k.Fate > expired:
			b.t.Fatalf("%+v has no fate", k)
		}
		w.fates[k.Move.Id] = k.Fate
	}
	w.clock = now
	b.pendingIsWhatWaits()
}

// pendingIsWhatWaits asks whether just the amounts that wait are pending, at each account.
func (b *both) pendingIsWhatWaits() {
	b.t.Helper()
	for _, a := range b.s.Accounts() {
		debit, credit := new(big.Int), new(big.Int)
		for _, k := range b.s.Keeps() {
			if k.Fate == waiting && k.Move.Debit == a.Id {
				debit.Add(debit, value(k.Move.Amount))
			}
			if k.Fate == waiting && k.Move.Credit == a.Id {
				credit.Add(credit, value(k.Move.Amount))
			}
		}
		if value(a.DebitsPending).Cmp(debit) != 0 || value(a.CreditsPending).Cmp(credit) != 0 {
			b.t.Fatalf("%+v: %v and %v wait", a, debit, credit)
		}
	}
}

func newWatch() *watch { return &watch{fates: map[api.Num]int{}} }

// TestP17_2OneEnd ends a pending one in each way, and then in each other way, and again.
func TestP17_2OneEnd(t *testing.T) {
	ends := []func(b *both, id uint64) api.Result{
		func(b *both, id uint64) api.Result { return b.do(end(id, 10, 0, post)) },
		func(b *both, id uint64) api.Result { return b.do(end(id, 10, 3, post)) },
		func(b *both, id uint64) api.Result { return b.do(end(id, 10, 0, void)) },
		func(b *both, _ uint64) api.Result { b.time(5); return 0 },
	}
	want := []int{posted, posted, voided, expired}
	for first := range ends {
		for second := range ends {
			for third := range ends {
				b, w := newBoth(t), newWatch()
				b.opens(1, 0)
				b.opens(2, 0)
				b.must(wait(10, 1, 2, 10, 5, 0), 0)
				w.looks(b)
				for i, which := range []int{first, second, third} {
					r := ends[which](b, uint64(20+i))
					w.looks(b)
					if got := b.fate(10); got != want[first] {
						t.Errorf("%d, %d, %d: fate %d", first, second, third, got)
					}
					if i > 0 && which < 3 && r != api.Result(25+want[first]) {
						t.Errorf("%d, %d, %d: %d", first, second, third, r)
					}
				}
			}
		}
	}
}

// TestP17_2Expires asks at the last time that one waits, and at the first one that it doesn't, at all edges of births and timeouts.
func TestP17_2Expires(t *testing.T) {
	for _, born := range []int{0, 1, 1000, 1<<40 - 1<<30, 1<<40 - 2, 1<<40 - 1, 1 << 40} {
		for _, timeout := range []int{1, 2, 7, 1<<30 - 1, 1 << 30} {
			b, w := newBoth(t), newWatch()
			b.opens(1, 0)
			b.opens(2, 0)
			b.time(born)
			b.must(wait(10, 1, 2, 10, timeout, 0), 0)
			w.looks(b)
			b.mustTime(born+timeout-1, 0)
			w.looks(b)
			b.must(of(end(20, 10, 0, void), wide.Of(9)), 26)
			if born+timeout > 1<<40 {
				b.mustTime(born+timeout, 0)
				b.mustTime(1<<40, 0)
				w.looks(b)
				b.must(end(20, 10, 0, post), 0)
				continue
			}
			b.tries(func() { b.mustTime(born+timeout, 1) })
			b.tries(func() { b.mustTime(1<<40, 1) })
			b.tries(func() { b.must(end(20, 10, 0, post), 0); b.mustTime(1<<40, 0) })
			b.tries(func() { b.must(end(20, 10, 0, void), 0); b.mustTime(1<<40, 0) })
			b.mustTime(born+timeout, 1)
			w.looks(b)
			b.must(end(20, 10, 0, post), 29)
		}
	}
}

// TestP17_2NeverByItself has a pending one without a timeout: it waits till somebody ends it.
func TestP17_2NeverByItself(t *testing.T) {
	for _, flag := range []int{post, void} {
		b, w := newBoth(t), newWatch()
		b.opens(1, 0)
		b.opens(2, 0)
		b.must(wait(10, 1, 2, 10, 0, closeDebit), 0)
		for _, now := range []int{1, 1 << 30, 1 << 40, math.MaxInt} {
			b.mustTime(now, 0)
			w.looks(b)
		}
		b.must(end(20, 10, 0, flag), 0)
		w.looks(b)
		b.mustTime(1<<40, 0)
	}
}

// TestP17_2ManyOrders does all in chance orders, and looks at each pending one behind each call.
func TestP17_2ManyOrders(t *testing.T) {
	random := rand.New(rand.NewSource(3))
	came := map[int]int{}
	for round := range 60 {
		c := chances{random, 400, round%2 == 1}
		b, w := newBoth(t), newWatch()
		town(b)
		for range 120 {
			c.step(b)
			w.looks(b)
		}
		for _, fate := range w.fates {
			came[fate]++
		}
	}
	for fate := waiting; fate <= expired; fate++ {
		if came[fate] < 100 {
			t.Errorf("%v", came)
		}
	}
}

// TestP17_2EachFew does each six calls of a few, and looks at each pending one behind each call.
func TestP17_2EachFew(t *testing.T) {
	b := newBoth(t)
	b.opens(1, 0)
	b.opens(2, 0)
	each(b, 6, 1, func() { newWatch().looks(b) })
}

// evenSums asks whether of each ledger debits and credits are even, posted and pending.
func (b *both) evenSums() {
	b.t.Helper()
	done, waits := map[int]*big.Int{}, map[int]*big.Int{}
	for _, a := range b.s.Accounts() {
		if done[a.Ledger] == nil {
			done[a.Ledger], waits[a.Ledger] = new(big.Int), new(big.Int)
		}
		done[a.Ledger].Add(done[a.Ledger], value(a.DebitsPosted)).Sub(done[a.Ledger], value(a.CreditsPosted))
		waits[a.Ledger].Add(waits[a.Ledger], value(a.DebitsPending)).Sub(waits[a.Ledger], value(a.CreditsPending))
	}
	for ledger := range done {
		if done[ledger].Sign() != 0 || waits[ledger].Sign() != 0 {
			b.t.Fatalf("ledger %d: debits are more than credits by %v posted, %v pending", ledger, done[ledger], waits[ledger])
		}
	}
}

// withinBounds asks whether each account holds to its flags, and its balances to the greatest number, pending and posted together.
func (b *both) withinBounds() {
	b.t.Helper()
	for _, a := range b.s.Accounts() {
		debit := new(big.Int).Add(value(a.DebitsPending), value(a.DebitsPosted))
		credit := new(big.Int).Add(value(a.CreditsPending), value(a.CreditsPosted))
		if a.Flags&debits != 0 && debit.Cmp(value(a.CreditsPosted)) > 0 || a.Flags&credits != 0 && credit.Cmp(value(a.DebitsPosted)) > 0 {
			b.t.Fatalf("beyond its limit: %+v", a)
		}
		if debit.Cmp(value(wide.Most)) > 0 || credit.Cmp(value(wide.Most)) > 0 {
			b.t.Fatalf("beyond the greatest number: %+v", a)
		}
	}
}

// TestP17_3Example holds what a limited account has, and ends that in each way: just what isn't held, nor posted, is there again.
func TestP17_3Example(t *testing.T) {
	for _, c := range []struct {
		how  string
		end  func(b *both)
		left uint64
	}{
		{"posted", func(b *both) { b.must(end(20, 10, 0, post), 0) }, 3},
		{"posted in part", func(b *both) { b.must(end(20, 10, 2, post), 0) }, 8},
		{"voided", func(b *both) { b.must(end(20, 10, 7, void), 0) }, 10},
		{"expired", func(b *both) { b.mustTime(9, 1) }, 10},
		{"not ended", func(b *both) {}, 3},
	} {
		b := newBoth(t)
		b.opens(1, 0)
		b.opens(2, debits)
		b.opens(3, credits)
		b.must(pay(7, 1, 2, 10, 0), 0)
		b.must(pay(8, 3, 1, 10, 0), 0)
		for _, side := range []struct{ debit, credit, result uint64 }{{2, 1, 33}, {1, 3, 34}} {
			b.tries(func() {
				b.must(wait(10, side.debit, side.credit, 7, 9, 0), 0)
				c.end(b)
				b.evenSums()
				b.withinBounds()
				b.must(pay(30, side.debit, side.credit, c.left+1, 0), api.Result(side.result))
				b.must(pay(30, side.debit, side.credit, c.left, 0), 0)
				b.must(wait(31, side.debit, side.credit, 1, 0, 0), api.Result(side.result))
				b.evenSums()
				b.withinBounds()
			})
		}
	}
}

// TestP17_3HeldCreditsAreNone has credits that wait: they can't be debited till they are posted.
func TestP17_3HeldCreditsAreNone(t *testing.T) {
	b := newBoth(t)
	b.opens(1, 0)
	b.opens(2, debits)
	b.must(wait(10, 1, 2, 10, 9, 0), 0)
	b.must(pay(20, 2, 1, 1, 0), 33)
	b.tries(func() { b.mustTime(9, 1); b.must(pay(20, 2, 1, 1, 0), 33) })
	b.tries(func() { b.must(end(19, 10, 0, void), 0); b.must(pay(20, 2, 1, 1, 0), 33) })
	b.must(end(19, 10, 4, post), 0)
	b.must(pay(20, 2, 1, 5, 0), 33)
	b.must(wait(20, 2, 1, 4, 9, 0), 0)
	b.must(pay(21, 2, 1, 1, 0), 33)
	b.withinBounds()
	b.mustTime(9, 1)
	b.must(pay(21, 2, 1, 4, 0), 0)
	b.withinBounds()
}

// TestP17_3Greatest holds the greatest number, and ends that: nothing wraps, and just what was given back is there again.
func TestP17_3Greatest(t *testing.T) {
	for _, n := range []api.Num{{}, wide.Most, wide.Of(1), {Hi: math.MaxUint64, Lo: math.MaxUint64 - 1}} {
		b := newBoth(t)
		b.opens(1, 0)
		b.opens(2, 0)
		b.must(of(wait(10, 1, 2, 0, 3, 0), wide.Most), 0)
		b.must(pay(11, 1, 2, 1, 0), 32)
		b.tries(func() { b.mustTime(3, 1); b.must(of(pay(11, 1, 2, 0, 0), wide.Most), 0); b.withinBounds() })
		b.must(of(end(20, 10, 0, post), n), 0)
		b.evenSums()
		b.withinBounds()
		left, _ := wide.Sub(wide.Most, n)
		if wide.Zero(n) || wide.Zero(left) {
			b.must(pay(11, 1, 2, 1, 0), 32)
			continue
		}
		more, _ := wide.Add(left, wide.Of(1))
		b.must(of(pay(11, 1, 2, 0, 0), more), 32)
		b.must(of(pay(11, 1, 2, 0, 0), left), 0)
		b.evenSums()
		b.withinBounds()
	}
}

// TestP17_3ManyOrders does all in chance orders, of small amounts and of great ones.
func TestP17_3ManyOrders(t *testing.T) {
	random := rand.New(rand.NewSource(4))
	came := map[api.Result]int{}
	for round := range 60 {
		c := chances{random, 400, round%2 == 1}
		b := newBoth(t)
		town(b)
		for range 120 {
			came[c.step(b)]++
			b.evenSums()
			b.withinBounds()
		}
	}
	for _, r := range []api.Result{0, 32, 33, 34} {
		if came[r] == 0 {
			t.Errorf("never %d: %v", r, came)
		}
	}
}

// TestP17_3EachFew does each six calls of a few, among two limited accounts.
func TestP17_3EachFew(t *testing.T) {
	b := newBoth(t)
	b.opens(1, credits)
	b.opens(2, debits)
	b.opens(3, 0)
	b.must(pay(101, 1, 3, 6, 0), 0)
	b.must(pay(102, 3, 2, 6, 0), 0)
	each(b, 6, 1, func() {
		b.evenSums()
		b.withinBounds()
	})
}
