package chain_test

import (
	"math"
	"slices"
	"testing"

	"bondstore/acct"
	"bondstore/api"
	"bondstore/books"
	"bondstore/chain"
	"bondstore/hold"
	"bondstore/wide"
)

// The flags of accounts and of transfers, as the document says them.
const (
	linked      = 1
	debits      = 2
	credits     = 4
	closed      = 8
	pending     = 2
	post        = 4
	void        = 8
	debitMost   = 16
	creditMost  = 32
	closeDebit  = 64
	closeCredit = 128
)

// model is a state as what it tells, in which nothing is taken back: a chain is done in a copy, which is thrown away if it fails.
type model struct {
	accounts []api.Account
	kept     []api.Kept
	clock    int
	stamp    int
}

// modelOf is what a state tells.
func modelOf(s *books.State) model {
	return model{s.Accounts(), s.Keeps(), s.Clock(), s.Stamp()}
}

func (m model) copy() model {
	m.accounts, m.kept = slices.Clone(m.accounts), slices.Clone(m.kept)
	return m
}

func (m model) is(other model) bool {
	return slices.Equal(m.accounts, other.accounts) && slices.Equal(m.kept, other.kept) && m.clock == other.clock && m.stamp == other.stamp
}

// state is a state of the model's parts.
func (m model) state(t *testing.T) *books.State {
	t.Helper()
	s, err := books.Load(m.accounts, m.kept, m.clock, m.stamp)
	if err != api.OK {
		t.Fatalf("Load: %d of %+v", err, m)
	}
	return s
}

// item is an account or a transfer of a batch: whether it is linked, and how a model does it.
type item struct {
	linked bool
	do     func(m *model) api.Result
}

// wrongs are the results that are told of an account, each at its place in their order, 0 where that isn't wrong.
func (m *model) wrongs(a api.Account) []api.Result {
	list := []api.Result{acct.Check(a), 0, 0, 0}
	for _, there := range m.accounts {
		if there.Id != a.Id {
			continue
		}
		if a.Ledger == there.Ledger && a.Code == there.Code && a.Flags&6 == there.Flags&6 {
			list[1] = 10
		} else {
			list[2] = 11
		}
	}
	if len(m.accounts) >= 32 {
		list[3] = 35
	}
	return list
}

// open makes an account, or tells what is wrong with it.
func (m *model) open(a api.Account) api.Result {
	for _, r := range m.wrongs(a) {
		if r != 0 {
			return r
		}
	}
	m.stamp++
	m.accounts = append(m.accounts, api.Account{Id: a.Id, Ledger: a.Ledger, Code: a.Code, Flags: a.Flags - a.Flags%2, Stamp: m.stamp})
	return 0
}

// opener and doer are items of both kinds. What is done of a transfer alone is told by layer 17, over a state of the model's parts.
func opener(a api.Account) item {
	return item{a.Flags&1 == 1, func(m *model) api.Result { return m.open(a) }}
}

func doer(t *testing.T, x api.Transfer) item {
	return item{x.Flags&1 == 1, func(m *model) api.Result {
		s := m.state(t)
		r := hold.Do(s, x)
		*m = modelOf(s)
		return r
	}}
}

func openers(list []api.Account) []item {
	var items []item
	for _, a := range list {
		items = append(items, opener(a))
	}
	return items
}

func doers(t *testing.T, list []api.Transfer) []item {
	var items []item
	for _, x := range list {
		items = append(items, doer(t, x))
	}
	return items
}

// batch does items chain by chain, and answers what came of each.
func (m *model) batch(items []item) []api.Result {
	if len(items) == 0 {
		return nil
	}
	first := slices.IndexFunc(items, func(x item) bool { return !x.linked })
	if first < 0 {
		return append(slices.Repeat([]api.Result{1}, len(items)-1), 2)
	}
	results := m.chain(items[:first+1])
	return append(results, m.batch(items[first+1:])...)
}

// chain does a chain that has an end.
func (m *model) chain(items []item) []api.Result {
	tried := m.copy()
	for i, x := range items {
		if r := x.do(&tried); r != 0 {
			results := slices.Repeat([]api.Result{1}, len(items))
			results[i] = r
			return results
		}
	}
	*m = tried
	return make([]api.Result, len(items))
}

// both is a state, and what it should be.
type both struct {
	t     *testing.T
	s     *books.State
	model model
}

func newBoth(t *testing.T) *both { return &both{t: t, s: books.New()} }

// accounts makes accounts, asks what came of it, and answers that.
func (b *both) accounts(list []api.Account) []api.Result {
	b.t.Helper()
	mark := b.s.Mark()
	want := b.model.batch(openers(list))
	if got := chain.Accounts(b.s, list); !slices.Equal(got, want) {
		b.t.Fatalf("Accounts(%+v): %v, not %v", list, got, want)
	}
	b.asksChanges(mark, want)
	return want
}

// transfers does transfers, asks what came of it, and answers that.
func (b *both) transfers(list []api.Transfer) []api.Result {
	b.t.Helper()
	mark := b.s.Mark()
	want := b.model.batch(doers(b.t, list))
	if got := chain.Transfers(b.s, list); !slices.Equal(got, want) {
		b.t.Fatalf("Transfers(%+v): %v, not %v", list, got, want)
	}
	b.asksChanges(mark, want)
	return want
}

// open makes one account, asks what came of it, and answers that.
func (b *both) open(a api.Account) api.Result {
	b.t.Helper()
	mark := b.s.Mark()
	want := b.model.open(a)
	if got := chain.Open(b.s, a); got != want {
		b.t.Fatalf("Open(%+v): %d, not %d", a, got, want)
	}
	b.asksChanges(mark, []api.Result{want})
	return want
}

// mustOpen, mustAccounts and mustTransfers do something, of which just this comes.
func (b *both) mustOpen(a api.Account, want api.Result) {
	b.t.Helper()
	if got := b.open(a); got != want {
		b.t.Fatalf("Open(%+v): %d, not %d", a, got, want)
	}
}

func (b *both) mustAccounts(list []api.Account, want ...api.Result) {
	b.t.Helper()
	if got := b.accounts(list); !slices.Equal(got, want) {
		b.t.Fatalf("Accounts(%+v): %v, not %v", list, got, want)
	}
}

func (b *both) mustTransfers(list []api.Transfer, want ...api.Result) {
	b.t.Helper()
	if got := b.transfers(list); !slices.Equal(got, want) {
		b.t.Fatalf("Transfers(%+v): %v, not %v", list, got, want)
	}
}

// time lets layer 17 go on to a time, asks what came of it, and answers how many expired.
func (b *both) time(now int) int {
	b.t.Helper()
	s := b.model.state(b.t)
	want := hold.Time(s, now)
	b.model = modelOf(s)
	if got := hold.Time(b.s, now); got != want {
		b.t.Fatalf("Time(%d): %d, not %d", now, got, want)
	}
	b.asks()
	return want
}

// mustTime lets the clock go on, so that just so many expire.
func (b *both) mustTime(now, want int) {
	b.t.Helper()
	if got := b.time(now); got != want {
		b.t.Fatalf("Time(%d): %d, not %d", now, got, want)
	}
}

// asksChanges asks the state what it tells, and its log whether there is more to be taken back just where something was done.
func (b *both) asksChanges(mark int, results []api.Result) {
	b.t.Helper()
	b.asks()
	if got := b.s.Mark(); slices.Contains(results, 0) != (got > mark) || got < mark {
		b.t.Fatalf("%d changes, and then %d, of %v", mark, got, results)
	}
}

// asks asks the state for all that it tells as a whole.
func (b *both) asks() {
	b.t.Helper()
	if got := modelOf(b.s); !got.is(b.model) {
		b.t.Fatalf("%+v, not %+v", got, b.model)
	}
	if b.s.Room() != (len(b.model.kept) < 96) {
		b.t.Fatalf("room %v, of %d transfers", b.s.Room(), len(b.model.kept))
	}
}

// asksAll asks for each thing by its name and its stamp, too, and for names that aren't there.
func (b *both) asksAll(gone ...uint64) {
	b.t.Helper()
	b.asks()
	for _, a := range b.model.accounts {
		if got, is := b.s.Account(a.Id); got != a || !is {
			b.t.Fatalf("Account(%v): %+v, %v, not %+v", a.Id, got, is, a)
		}
	}
	for _, k := range b.model.kept {
		if got, is := b.s.Kept(k.Move.Id); got != k || !is {
			b.t.Fatalf("Kept(%v): %+v, %v, not %+v", k.Move.Id, got, is, k)
		}
	}
	if got := b.s.Between(math.MinInt, 0, false); !slices.Equal(got, b.model.kept) {
		b.t.Fatalf("Between: %+v, not %+v", got, b.model.kept)
	}
	for _, id := range gone {
		if a, is := b.s.Account(wide.Of(id)); is {
			b.t.Fatalf("%+v is there", a)
		}
		if k, is := b.s.Kept(wide.Of(id)); is {
			b.t.Fatalf("%+v is there", k)
		}
	}
}

// tries does something, and takes it back.
func (b *both) tries(do func()) {
	b.t.Helper()
	mark, was := b.s.Mark(), b.model.copy()
	do()
	b.s.Back(mark)
	b.model = was
	b.asks()
}

// loaded is a both of a state that was loaded of the parts of another one.
func (b *both) loaded() *both {
	b.t.Helper()
	return &both{t: b.t, s: b.model.state(b.t), model: b.model.copy()}
}

// someone is an account of the ledger 1.
func someone(id uint64, flags int) api.Account {
	return api.Account{Id: wide.Of(id), Ledger: 1, Code: 1, Flags: flags}
}

// pay is a transfer within the ledger 1.
func pay(id, debit, credit, amount uint64, flags int) api.Transfer {
	return api.Transfer{Id: wide.Of(id), Debit: wide.Of(debit), Credit: wide.Of(credit), Amount: wide.Of(amount), Ledger: 1, Code: 1, Flags: flags}
}

// wait is such a transfer that waits, so long.
func wait(id, debit, credit, amount uint64, timeout, flags int) api.Transfer {
	x := pay(id, debit, credit, amount, pending|flags)
	x.Timeout = timeout
	return x
}

// end is a transfer that ends a pending one, and names nothing of it but its name.
func end(id, held, amount uint64, flags int) api.Transfer {
	return api.Transfer{Id: wide.Of(id), Pending: wide.Of(held), Amount: wide.Of(amount), Flags: flags}
}

// but is an account with a change.
func but(a api.Account, change func(*api.Account)) api.Account {
	change(&a)
	return a
}

// shop is a state of the accounts 1 to 4 of the ledger 1 (2's debits are limited, 3's credits are), of which 4 is closed, and 5 of the ledger 2. Of its transfers 10 and 11 wait, 13 was posted by 14, 15 has expired.
func shop(t *testing.T) *both {
	t.Helper()
	b := newBoth(t)
	b.mustAccounts([]api.Account{someone(1, 0), someone(2, debits), someone(3, credits), someone(4, 0), {Id: wide.Of(5), Ledger: 2, Code: 1}}, 0, 0, 0, 0, 0)
	b.mustTransfers([]api.Transfer{
		wait(10, 1, 2, 10, 0, 0), wait(11, 1, 4, 9, 50, closeCredit), wait(13, 1, 2, 30, 60, 0), end(14, 13, 25, post), wait(15, 1, 2, 50, 5, 0),
	}, 0, 0, 0, 0, 0)
	b.mustTime(7, 1)
	return b
}

// crowd is a shop in which there is room for no more accounts.
func crowd(t *testing.T) *both {
	t.Helper()
	b := shop(t)
	for id := uint64(1000); len(b.model.accounts) < 32; id++ {
		b.mustOpen(someone(id, 0), 0)
	}
	return b
}
