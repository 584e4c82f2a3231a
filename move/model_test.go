package move_test

import (
	"math"
	"math/big"
	"slices"
	"testing"

	"bondstore/api"
	"bondstore/books"
	"bondstore/move"
	"bondstore/wide"
	"bondstore/xfer"
)

// The flags of transfers and of accounts, as the document says them.
const (
	linked      = 1
	pending     = 2
	post        = 4
	void        = 8
	debitMost   = 16
	creditMost  = 32
	closeDebit  = 64
	closeCredit = 128
	debits      = 2
	credits     = 4
	closed      = 8
)

// value reads a number in another way than the program does; numOf goes back from one that isn't above the greatest.
func value(a api.Num) *big.Int {
	n := new(big.Int).SetUint64(a.Hi)
	return n.Lsh(n, 64).Add(n, new(big.Int).SetUint64(a.Lo))
}

func numOf(n *big.Int) api.Num {
	hi := new(big.Int).Rsh(n, 64)
	lo := new(big.Int).Sub(n, new(big.Int).Lsh(hi, 64))
	return api.Num{Hi: hi.Uint64(), Lo: lo.Uint64()}
}

func together(list ...api.Num) *big.Int {
	all := new(big.Int)
	for _, a := range list {
		all.Add(all, value(a))
	}
	return all
}

// lesser is the lesser one of two numbers, isAbove whether the first one is greater.
func lesser(a, b *big.Int) *big.Int {
	if isAbove(a, b) {
		return b
	}
	return a
}

func isAbove(a, b *big.Int) bool { return a.Cmp(b) > 0 }

// side is one side of an account: what is pending and posted there, what is posted at the other one, and the flag that limits it.
type side struct {
	pending, posted *api.Num
	other           api.Num
	flag            int
	exceeds         api.Result
}

func debitSide(a *api.Account) side {
	return side{&a.DebitsPending, &a.DebitsPosted, a.CreditsPosted, debits, 33}
}

func creditSide(a *api.Account) side {
	return side{&a.CreditsPending, &a.CreditsPosted, a.DebitsPosted, credits, 34}
}

func (d side) have() *big.Int {
	n := value(d.other)
	n.Sub(n, together(*d.pending, *d.posted))
	if n.Sign() < 0 {
		return new(big.Int)
	}
	return n
}

// add adds an amount, if it may, and answers why it mayn't.
func (d side) add(n *big.Int, flags int, waits bool) api.Result {
	all := together(*d.pending, *d.posted)
	if isAbove(all.Add(all, n), value(wide.Most)) {
		return 32
	}
	if flags&d.flag != 0 && isAbove(n, d.have()) {
		return d.exceeds
	}
	balance := d.posted
	if waits {
		balance = d.pending
	}
	*balance = numOf(new(big.Int).Add(value(*balance), n))
	return 0
}

// model is a state, read otherwise than by the layers below: all is looked for in lists, and reckoned in big numbers.
type model struct {
	accounts []api.Account
	kept     []api.Kept
	clock    int
	stamp    int
}

func (m *model) copy() model {
	c := *m
	c.accounts, c.kept = slices.Clone(m.accounts), slices.Clone(m.kept)
	return c
}

// account answers one, and whether it is there; what is written to it is written to the model, if it is.
func (m *model) account(id api.Num) (*api.Account, bool) {
	for i := range m.accounts {
		if m.accounts[i].Id == id {
			return &m.accounts[i], true
		}
	}
	return &api.Account{}, false
}

func (m *model) transfer(id api.Num) (api.Kept, bool) {
	for _, k := range m.kept {
		if k.Move.Id == id {
			return k, true
		}
	}
	return api.Kept{}, false
}

// wrongs are the results that are told of a transfer ahead of its amount, each at its place in their order, 0 where that isn't wrong.
func (m *model) wrongs(t api.Transfer) []api.Result {
	var list []api.Result
	ask := func(is bool, r api.Result) {
		if !is {
			r = 0
		}
		list = append(list, r)
	}
	ask(true, xfer.Check(t))
	ask(t.Flags&(post|void) != 0, 6)
	k, is := m.transfer(t.Id)
	same, asked := t, k.Asked
	same.Flags |= linked
	asked.Flags |= linked
	ask(is && same == asked, 10)
	ask(is && same != asked, 11)
	d, isDebit := m.account(t.Debit)
	c, isCredit := m.account(t.Credit)
	ask(!isDebit, 19)
	ask(!isCredit, 20)
	ask(isDebit && isCredit && d.Ledger != c.Ledger, 21)
	ask(isDebit && d.Ledger != t.Ledger || isCredit && c.Ledger != t.Ledger, 22)
	ask(d.Flags&closed != 0, 30)
	ask(c.Flags&closed != 0, 31)
	ask(len(m.kept) >= 96, 35)
	return list
}

// amount is how much is moved, or why that is nothing.
func amount(t api.Transfer, d, c *api.Account) (*big.Int, api.Result) {
	n := value(t.Amount)
	if n.Sign() == 0 {
		n = value(wide.Most)
	}
	if t.Flags&debitMost != 0 {
		n = lesser(n, debitSide(d).have())
		if n.Sign() == 0 {
			return n, 33
		}
	}
	if t.Flags&creditMost != 0 {
		n = lesser(n, creditSide(c).have())
		if n.Sign() == 0 {
			return n, 34
		}
	}
	return n, 0
}

func (m *model) do(t api.Transfer) api.Result {
	for _, r := range m.wrongs(t) {
		if r != 0 {
			return r
		}
	}
	wasDebit, _ := m.account(t.Debit)
	wasCredit, _ := m.account(t.Credit)
	d, c := *wasDebit, *wasCredit
	n, r := amount(t, &d, &c)
	if r != 0 {
		return r
	}
	waits := t.Flags&pending != 0
	if r := debitSide(&d).add(n, d.Flags, waits); r != 0 {
		return r
	}
	if r := creditSide(&c).add(n, c.Flags, waits); r != 0 {
		return r
	}
	if t.Flags&closeDebit != 0 {
		d.Flags |= closed
	}
	if t.Flags&closeCredit != 0 {
		c.Flags |= closed
	}
	*wasDebit, *wasCredit = d, c
	m.keep(t, n, waits)
	return 0
}

func (m *model) keep(t api.Transfer, n *big.Int, waits bool) {
	k := api.Kept{Asked: t, Move: t}
	m.stamp++
	k.Move.Amount, k.Move.Stamp, k.Move.Born = numOf(n), m.stamp, m.clock
	if waits {
		k.Fate = 1
	}
	m.kept = append(m.kept, k)
}

// due is the first transfer that has ended by itself by the clock.
func (m *model) due() (api.Kept, bool) {
	var first api.Kept
	for _, k := range m.kept {
		ends := k.Move.Born + k.Move.Timeout
		if k.Fate != 1 || k.Move.Timeout == 0 || ends > m.clock {
			continue
		}
		if first.Fate == 0 || ends < first.Move.Born+first.Move.Timeout {
			first = k
		}
	}
	return first, first.Fate != 0
}

// both is a state, and what it should be.
type both struct {
	t     *testing.T
	s     *books.State
	model model
}

func newBoth(t *testing.T) *both { return &both{t: t, s: books.New()} }

// open opens an account, which there is room for.
func (b *both) open(a api.Account) {
	b.t.Helper()
	if err := b.s.Open(a); err != api.OK {
		b.t.Fatalf("Open(%+v): %d", a, err)
	}
	b.model.stamp++
	a.Stamp = b.model.stamp
	b.model.accounts = append(b.model.accounts, a)
}

// opens opens an account of the ledger 1.
func (b *both) opens(id uint64, flags int) {
	b.t.Helper()
	b.open(api.Account{Id: wide.Of(id), Ledger: 1, Code: 1, Flags: flags})
}

func (b *both) time(now int) {
	b.s.Time(now)
	if now > b.model.clock && now <= 1<<40 {
		b.model.clock = now
	}
}

// do does a transfer, asks what came of it, and answers that.
func (b *both) do(x api.Transfer) api.Result {
	b.t.Helper()
	got, want := move.Do(b.s, x), b.model.do(x)
	if got != want {
		b.t.Fatalf("Do(%+v): %d, not %d", x, got, want)
	}
	b.asks()
	return got
}

// must does a transfer, of which just this comes.
func (b *both) must(x api.Transfer, want api.Result) {
	b.t.Helper()
	if got := b.do(x); got != want {
		b.t.Fatalf("Do(%+v): %d, not %d", x, got, want)
	}
}

// asks asks the state for all that it tells as a whole.
func (b *both) asks() {
	b.t.Helper()
	m := &b.model
	if got := b.s.Accounts(); !slices.Equal(got, m.accounts) {
		b.t.Fatalf("Accounts: %+v, not %+v", got, m.accounts)
	}
	if got := b.s.Keeps(); !slices.Equal(got, m.kept) {
		b.t.Fatalf("Keeps: %+v, not %+v", got, m.kept)
	}
	if b.s.Clock() != m.clock || b.s.Stamp() != m.stamp || b.s.Room() != (len(m.kept) < 96) {
		b.t.Fatalf("clock %d, stamp %d, room %v, not %d, %d, of %d transfers", b.s.Clock(), b.s.Stamp(), b.s.Room(), m.clock, m.stamp, len(m.kept))
	}
	got, is := b.s.Due()
	if want, should := m.due(); got != want || is != should {
		b.t.Fatalf("Due: %+v, %v, not %+v, %v", got, is, want, should)
	}
}

// asksAll asks for each thing by its name and its stamp, too.
func (b *both) asksAll() {
	b.t.Helper()
	b.asks()
	for _, a := range b.model.accounts {
		if got, is := b.s.Account(a.Id); got != a || !is {
			b.t.Fatalf("Account(%v): %+v, %v, not %+v", a.Id, got, is, a)
		}
	}
	for _, k := range b.model.kept {
		if got, is := b.s.Kept(k.Move.Id); got != k || !is {
			b.t.Fatalf("Kept(%v): %+v, %v, not %+v", k.Move.Id, got, is, k)
		}
	}
	if got := b.s.Between(math.MinInt, 0, false); !slices.Equal(got, b.model.kept) {
		b.t.Fatalf("Between: %+v, not %+v", got, b.model.kept)
	}
}

// loaded is a both of a state that was loaded from these parts.
func loaded(t *testing.T, m model) *both {
	t.Helper()
	s, err := books.Load(m.accounts, m.kept, m.clock, m.stamp)
	if err != api.OK {
		t.Fatalf("Load: %d of %+v", err, m)
	}
	return &both{t: t, s: s, model: m.copy()}
}

// pay is a transfer within the ledger 1.
func pay(id, debit, credit, amount uint64, flags int) api.Transfer {
	return api.Transfer{Id: wide.Of(id), Debit: wide.Of(debit), Credit: wide.Of(credit), Amount: wide.Of(amount), Ledger: 1, Code: 1, Flags: flags}
}

// pays is such a transfer of a great amount.
func pays(id, debit, credit uint64, amount api.Num, flags int) api.Transfer {
	x := pay(id, debit, credit, 0, flags)
	x.Amount = amount
	return x
}
