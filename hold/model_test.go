package hold_test

import (
	"math"
	"math/big"
	"slices"
	"testing"

	"bondstore/api"
	"bondstore/books"
	"bondstore/hold"
	"bondstore/move"
	"bondstore/wide"
	"bondstore/xfer"
)

// The flags of transfers and of accounts, and the fates, as the document says them.
const (
	linked      = 1
	pending     = 2
	post        = 4
	void        = 8
	debitMost   = 16
	creditMost  = 32
	closeDebit  = 64
	closeCredit = 128
	debits      = 2
	credits     = 4
	closed      = 8
	waiting     = 1
	posted      = 2
	voided      = 3
	expired     = 4
)

// value reads a number in another way than the program does; numOf goes back from one that isn't above the greatest.
func value(a api.Num) *big.Int {
	n := new(big.Int).SetUint64(a.Hi)
	return n.Lsh(n, 64).Add(n, new(big.Int).SetUint64(a.Lo))
}

func numOf(n *big.Int) api.Num {
	hi := new(big.Int).Rsh(n, 64)
	lo := new(big.Int).Sub(n, new(big.Int).Lsh(hi, 64))
	return api.Num{Hi: hi.Uint64(), Lo: lo.Uint64()}
}

// model is a state without balances: these, and what is closed, are drawn anew from all its transfers whenever they are asked for.
type model struct {
	made  []api.Account
	kept  []api.Kept
	clock int
	stamp int
}

func (m *model) copy() model {
	c := *m
	c.made, c.kept = slices.Clone(m.made), slices.Clone(m.kept)
	return c
}

// debited is how much is debited from an account, pending and posted; credited likewise. An ending transfer is posted as its own amount, and the pending one that it ends not at all.
func (m *model) debited(id api.Num) (*big.Int, *big.Int) {
	return m.sums(func(x api.Transfer) bool { return x.Debit == id })
}

func (m *model) credited(id api.Num) (*big.Int, *big.Int) {
	return m.sums(func(x api.Transfer) bool { return x.Credit == id })
}

func (m *model) sums(is func(api.Transfer) bool) (*big.Int, *big.Int) {
	waits, done := new(big.Int), new(big.Int)
	for _, k := range m.kept {
		switch {
		case !is(k.Move) || k.Move.Flags&void != 0:
		case k.Fate == waiting:
			waits.Add(waits, value(k.Move.Amount))
		case k.Fate == 0:
			done.Add(done, value(k.Move.Amount))
		}
	}
	return waits, done
}

// isClosed answers whether a transfer closes an account that waits, or was posted.
func (m *model) isClosed(id api.Num) bool {
	for _, k := range m.kept {
		debit := k.Move.Flags&closeDebit != 0 && k.Move.Debit == id
		credit := k.Move.Flags&closeCredit != 0 && k.Move.Credit == id
		if (debit || credit) && (k.Fate == waiting || k.Fate == posted) {
			return true
		}
	}
	return false
}

func (m *model) accounts() []api.Account {
	list := slices.Clone(m.made)
	for i := range list {
		a := &list[i]
		waits, done := m.debited(a.Id)
		a.DebitsPending, a.DebitsPosted = numOf(waits), numOf(done)
		waits, done = m.credited(a.Id)
		a.CreditsPending, a.CreditsPosted = numOf(waits), numOf(done)
		if m.isClosed(a.Id) {
			a.Flags |= closed
		}
	}
	return list
}

// transfer answers the place of a kept one, and whether it is there.
func (m *model) transfer(id api.Num) (int, bool) {
	at := slices.IndexFunc(m.kept, func(k api.Kept) bool { return k.Move.Id == id })
	return at, at >= 0
}

// state is a state of the model's parts.
func (m *model) state(t *testing.T) *books.State {
	t.Helper()
	s, err := books.Load(m.accounts(), m.kept, m.clock, m.stamp)
	if err != api.OK {
		t.Fatalf("Load: %d of %+v", err, m)
	}
	return s
}

// isOther answers whether a transfer names something that the pending one hasn't.
func isOther(x, p api.Transfer) bool {
	none := api.Num{}
	return x.Debit != none && x.Debit != p.Debit || x.Credit != none && x.Credit != p.Credit ||
		x.Ledger != 0 && x.Ledger != p.Ledger || x.Code != 0 && x.Code != p.Code
}

// wrongs are the results that are told of a transfer that ends another one, each at its place in their order, 0 where that isn't wrong.
func (m *model) wrongs(x api.Transfer) []api.Result {
	var list []api.Result
	ask := func(is bool, r api.Result) {
		if !is {
			r = 0
		}
		list = append(list, r)
	}
	ask(true, xfer.Check(x))
	same, asked := x, api.Transfer{}
	at, is := m.transfer(x.Id)
	if is {
		asked = m.kept[at].Asked
	}
	same.Flags |= linked
	asked.Flags |= linked
	ask(is && same == asked, 10)
	ask(is && same != asked, 11)
	at, is = m.transfer(x.Pending)
	ask(!is, 23)
	if !is {
		return list
	}
	k := m.kept[at]
	ask(k.Move.Flags&pending == 0, 24)
	ask(isOther(x, k.Move), 25)
	ask(k.Fate == posted, 27)
	ask(k.Fate == voided, 28)
	ask(k.Fate == expired, 29)
	more := value(x.Amount).Cmp(value(k.Move.Amount))
	ask(x.Amount != api.Num{} && (more > 0 || x.Flags&void != 0 && more != 0), 26)
	ask(x.Flags&post != 0 && k.Move.Flags&closeDebit == 0 && m.isClosed(k.Move.Debit), 30)
	ask(x.Flags&post != 0 && k.Move.Flags&closeCredit == 0 && m.isClosed(k.Move.Credit), 31)
	ask(len(m.kept) >= 96, 35)
	return list
}

// end ends a pending one, or tells what is wrong.
func (m *model) end(x api.Transfer) api.Result {
	for _, r := range m.wrongs(x) {
		if r != 0 {
			return r
		}
	}
	at, _ := m.transfer(x.Pending)
	was := m.kept[at].Move
	m.kept[at].Fate = posted
	if x.Flags&void != 0 {
		m.kept[at].Fate = voided
	}
	k := api.Kept{Asked: x, Move: x}
	m.stamp++
	k.Move.Debit, k.Move.Credit, k.Move.Ledger, k.Move.Code = was.Debit, was.Credit, was.Ledger, was.Code
	k.Move.Stamp, k.Move.Born = m.stamp, m.clock
	if x.Amount == (api.Num{}) {
		k.Move.Amount = was.Amount
	}
	m.kept = append(m.kept, k)
	return 0
}

// time lets all expire that has its time behind it, and counts that.
func (m *model) time(now int) int {
	if now > m.clock && now <= 1<<40 {
		m.clock = now
	}
	n := 0
	for i, k := range m.kept {
		if k.Fate == waiting && k.Move.Timeout != 0 && k.Move.Born+k.Move.Timeout <= m.clock {
			m.kept[i].Fate = expired
			n++
		}
	}
	return n
}

// both is a state, and what it should be.
type both struct {
	t     *testing.T
	s     *books.State
	model model
}

func newBoth(t *testing.T) *both { return &both{t: t, s: books.New()} }

// open makes an account, which there is room for.
func (b *both) open(a api.Account) {
	b.t.Helper()
	if err := b.s.Open(a); err != api.OK {
		b.t.Fatalf("Open(%+v): %d", a, err)
	}
	b.model.stamp++
	a.Stamp = b.model.stamp
	b.model.made = append(b.model.made, a)
}

// opens makes an account of the ledger 1.
func (b *both) opens(id uint64, flags int) {
	b.t.Helper()
	b.open(api.Account{Id: wide.Of(id), Ledger: 1, Code: 1, Flags: flags})
}

// move is what layer 16 does of a transfer, over a state that was loaded of the model's parts.
func (b *both) move(x api.Transfer) api.Result {
	b.t.Helper()
	s := b.model.state(b.t)
	r := move.Do(s, x)
	b.model.kept, b.model.stamp = s.Keeps(), s.Stamp()
	if got, want := s.Accounts(), b.model.accounts(); !slices.Equal(got, want) {
		b.t.Fatalf("the model's accounts: %+v, not %+v", want, got)
	}
	return r
}

// do does a transfer, asks what came of it, and answers that.
func (b *both) do(x api.Transfer) api.Result {
	b.t.Helper()
	var want api.Result
	if x.Flags&(post|void) != 0 {
		want = b.model.end(x)
	} else {
		want = b.move(x)
	}
	if got := hold.Do(b.s, x); got != want {
		b.t.Fatalf("Do(%+v): %d, not %d", x, got, want)
	}
	b.asks()
	return want
}

// must does a transfer, of which just this comes.
func (b *both) must(x api.Transfer, want api.Result) {
	b.t.Helper()
	if got := b.do(x); got != want {
		b.t.Fatalf("Do(%+v): %d, not %d", x, got, want)
	}
}

// time lets the clock go on, asks what came of it, and answers how many expired.
func (b *both) time(now int) int {
	b.t.Helper()
	want := b.model.time(now)
	if got := hold.Time(b.s, now); got != want {
		b.t.Fatalf("Time(%d): %d, not %d", now, got, want)
	}
	b.asks()
	return want
}

// mustTime lets the clock go on, so that just so many expire.
func (b *both) mustTime(now, want int) {
	b.t.Helper()
	if got := b.time(now); got != want {
		b.t.Fatalf("Time(%d): %d, not %d", now, got, want)
	}
}

// asks asks the state for all that it tells as a whole.
func (b *both) asks() {
	b.t.Helper()
	m := &b.model
	if got, want := b.s.Accounts(), m.accounts(); !slices.Equal(got, want) {
		b.t.Fatalf("Accounts: %+v, not %+v", got, want)
	}
	if got := b.s.Keeps(); !slices.Equal(got, m.kept) {
		b.t.Fatalf("Keeps: %+v, not %+v", got, m.kept)
	}
	if b.s.Clock() != m.clock || b.s.Stamp() != m.stamp || b.s.Room() != (len(m.kept) < 96) {
		b.t.Fatalf("clock %d, stamp %d, room %v, not %d, %d, of %d transfers", b.s.Clock(), b.s.Stamp(), b.s.Room(), m.clock, m.stamp, len(m.kept))
	}
	if k, is := b.s.Due(); is {
		b.t.Fatalf("still due: %+v", k)
	}
}

// asksAll asks for each thing by its name and its stamp, too.
func (b *both) asksAll() {
	b.t.Helper()
	b.asks()
	for _, a := range b.model.accounts() {
		if got, is := b.s.Account(a.Id); got != a || !is {
			b.t.Fatalf("Account(%v): %+v, %v, not %+v", a.Id, got, is, a)
		}
	}
	for _, k := range b.model.kept {
		if got, is := b.s.Kept(k.Move.Id); got != k || !is {
			b.t.Fatalf("Kept(%v): %+v, %v, not %+v", k.Move.Id, got, is, k)
		}
	}
	if got := b.s.Between(math.MinInt, 0, false); !slices.Equal(got, b.model.kept) {
		b.t.Fatalf("Between: %+v, not %+v", got, b.model.kept)
	}
}

// tries does something, and takes it back.
func (b *both) tries(do func()) {
	b.t.Helper()
	mark, was := b.s.Mark(), b.model.copy()
	do()
	b.s.Back(mark)
	b.model = was
	b.asks()
}

// loaded is a both of a state that was loaded of the parts of another one.
func (b *both) loaded() *both {
	b.t.Helper()
	return &both{t: b.t, s: b.model.state(b.t), model: b.model.copy()}
}

// account is one, as the state tells it.
func (b *both) account(id uint64) api.Account {
	a, _ := b.s.Account(wide.Of(id))
	return a
}

// fate is what became of a transfer.
func (b *both) fate(id uint64) int {
	k, _ := b.s.Kept(wide.Of(id))
	return k.Fate
}

// pay is a transfer within the ledger 1.
func pay(id, debit, credit, amount uint64, flags int) api.Transfer {
	return api.Transfer{Id: wide.Of(id), Debit: wide.Of(debit), Credit: wide.Of(credit), Amount: wide.Of(amount), Ledger: 1, Code: 1, Flags: flags}
}

// wait is such a transfer that waits, so long.
func wait(id, debit, credit, amount uint64, timeout, flags int) api.Transfer {
	x := pay(id, debit, credit, amount, pending|flags)
	x.Timeout = timeout
	return x
}

// end is a transfer that ends a pending one, and names nothing of it but its name.
func end(id, held, amount uint64, flags int) api.Transfer {
	return api.Transfer{Id: wide.Of(id), Pending: wide.Of(held), Amount: wide.Of(amount), Flags: flags}
}

// of is a transfer of another, great amount.
func of(x api.Transfer, amount api.Num) api.Transfer {
	x.Amount = amount
	return x
}

// but is a transfer with a change.
func but(x api.Transfer, change func(*api.Transfer)) api.Transfer {
	change(&x)
	return x
}

// wantsAll asks whether just these results came.
func wantsAll(t *testing.T, came map[api.Result]int, want ...api.Result) {
	t.Helper()
	for _, r := range want {
		if came[r] == 0 {
			t.Errorf("never %d: %v", r, came)
		}
	}
	if len(came) != len(want) {
		t.Errorf("%v came, not just %v", came, want)
	}
}
