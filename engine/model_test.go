package engine_test

import (
	"math"
	"slices"
	"testing"

	"bondstore/api"
	"bondstore/books"
	"bondstore/chain"
	"bondstore/engine"
	"bondstore/hold"
	"bondstore/wide"
)

// The flags of accounts and of transfers, as the document says them.
const (
	linked      = 1
	debits      = 2
	credits     = 4
	pending     = 2
	post        = 4
	void        = 8
	debitMost   = 16
	creditMost  = 32
	closeDebit  = 64
	closeCredit = 128
)

// model is a state as what it tells.
type model struct {
	accounts []api.Account
	kept     []api.Kept
	clock    int
	stamp    int
}

// modelOf is what a state tells.
func modelOf(s *books.State) model {
	return model{s.Accounts(), s.Keeps(), s.Clock(), s.Stamp()}
}

func (m model) is(other model) bool {
	return slices.Equal(m.accounts, other.accounts) && slices.Equal(m.kept, other.kept) && m.clock == other.clock && m.stamp == other.stamp
}

// state is a state of the model's parts.
func (m model) state(t *testing.T) *books.State {
	t.Helper()
	s, err := books.Load(m.accounts, m.kept, m.clock, m.stamp)
	if err != api.OK {
		t.Fatalf("Load: %d of %+v", err, m)
	}
	return s
}

// do does a request over a state that is loaded of the model's parts, by the calls of layers 17 and 18 that the chapter names.
func (m *model) do(t *testing.T, q api.Request) api.Reply {
	t.Helper()
	s, r := m.state(t), api.Reply{Err: 1}
	if n := len(q.Accounts); q.Op == 1 && n != 0 && n < 9 {
		r = api.Reply{Results: chain.Accounts(s, q.Accounts)}
	}
	if n := len(q.Transfers); q.Op == 2 && n != 0 && n < 9 {
		r = api.Reply{Results: chain.Transfers(s, q.Transfers)}
	}
	if q.Op == 3 && q.Now > -1 && q.Now < 1<<40+1 {
		hold.Time(s, q.Now)
		r = api.Reply{}
	}
	*m = modelOf(s)
	return r
}

// isReply answers whether a reply is just this error, and these results.
func isReply(r api.Reply, err api.Errno, results []api.Result) bool {
	return r.Err == err && slices.Equal(r.Results, results) && len(r.Accounts) == 0 && len(r.Transfers) == 0
}

// both is a state, and what it should be.
type both struct {
	t     *testing.T
	s     *books.State
	model model
}

func newBoth(t *testing.T) *both { return &both{t: t, s: books.New()} }

// do does a request, asks what came of it, and answers that.
func (b *both) do(q api.Request) api.Reply {
	b.t.Helper()
	mark := b.s.Mark()
	want := b.model.do(b.t, q)
	got := engine.Do(b.s, q)
	if !isReply(got, want.Err, want.Results) {
		b.t.Fatalf("Do(%+v): %+v, not %+v", q, got, want)
	}
	if engine.Good(q) != (want.Err == 0) || engine.Writes(q) != (q.Op == 1 || q.Op == 2 || q.Op == 3) {
		b.t.Fatalf("%+v: Good %v, Writes %v, and Do %+v", q, engine.Good(q), engine.Writes(q), got)
	}
	b.asks()
	b.asksChanges(mark, got.Err)
	return got
}

// asksChanges asks the state's log: behind a request that was done there is nothing to be taken back any more, behind another one all that there was.
func (b *both) asksChanges(mark int, err api.Errno) {
	b.t.Helper()
	if err == 0 {
		mark = 0
	}
	if got := b.s.Mark(); got != mark {
		b.t.Fatalf("%d changes, not %d", got, mark)
	}
	if err == 0 {
		b.s.Back(0)
		b.asks()
	}
}

// must does a request that can be, of which just these results come.
func (b *both) must(q api.Request, want ...api.Result) {
	b.t.Helper()
	if got := b.do(q); !isReply(got, 0, want) {
		b.t.Fatalf("Do(%+v): %+v, not %v", q, got, want)
	}
}

// mustNot asks for a request that can't be.
func (b *both) mustNot(q api.Request) {
	b.t.Helper()
	if got := b.do(q); !isReply(got, 1, nil) {
		b.t.Fatalf("Do(%+v): %+v, not ErrArg", q, got)
	}
}

// asks asks the state for all that it tells as a whole.
func (b *both) asks() {
	b.t.Helper()
	if got := modelOf(b.s); !got.is(b.model) {
		b.t.Fatalf("%+v, not %+v", got, b.model)
	}
}

// asksAll asks for each thing by its name and its stamp, too.
func (b *both) asksAll() {
	b.t.Helper()
	b.asks()
	for _, a := range b.model.accounts {
		if got, is := b.s.Account(a.Id); got != a || !is {
			b.t.Fatalf("Account(%v): %+v, %v, not %+v", a.Id, got, is, a)
		}
	}
	for _, k := range b.model.kept {
		if got, is := b.s.Kept(k.Move.Id); got != k || !is {
			b.t.Fatalf("Kept(%v): %+v, %v, not %+v", k.Move.Id, got, is, k)
		}
	}
	if got := b.s.Between(math.MinInt, 0, false); !slices.Equal(got, b.model.kept) {
		b.t.Fatalf("Between: %+v, not %+v", got, b.model.kept)
	}
}

// account is what the state tells of one.
func (b *both) account(id uint64) api.Account {
	a, _ := b.s.Account(wide.Of(id))
	return a
}

// fate is what became of a transfer.
func (b *both) fate(id uint64) int {
	k, _ := b.s.Kept(wide.Of(id))
	return k.Fate
}

// loaded is a both of a state that was loaded of the parts of another one.
func (b *both) loaded() *both {
	b.t.Helper()
	return &both{t: b.t, s: b.model.state(b.t), model: modelOf(b.s)}
}

// The requests that may change something.
func opens(list ...api.Account) api.Request { return api.Request{Op: 1, Accounts: list} }

func moves(list ...api.Transfer) api.Request { return api.Request{Op: 2, Transfers: list} }

func tick(now int) api.Request { return api.Request{Op: 3, Now: now} }

// someone is an account of the ledger 1.
func someone(id uint64, flags int) api.Account {
	return api.Account{Id: wide.Of(id), Ledger: 1, Code: 1, Flags: flags}
}

// pay is a transfer within the ledger 1.
func pay(id, debit, credit, amount uint64, flags int) api.Transfer {
	return api.Transfer{Id: wide.Of(id), Debit: wide.Of(debit), Credit: wide.Of(credit), Amount: wide.Of(amount), Ledger: 1, Code: 1, Flags: flags}
}

// wait is such a transfer that waits, so long.
func wait(id, debit, credit, amount uint64, timeout, flags int) api.Transfer {
	x := pay(id, debit, credit, amount, pending|flags)
	x.Timeout = timeout
	return x
}

// end is a transfer that ends a pending one, and names nothing of it but its name.
func end(id, held, amount uint64, flags int) api.Transfer {
	return api.Transfer{Id: wide.Of(id), Pending: wide.Of(held), Amount: wide.Of(amount), Flags: flags}
}

// shop is a state at 7 of the accounts 1 to 4 of the ledger 1 (2's debits are limited, 3's credits are), of which 4 is closed, and 5 of the ledger 2. Of its transfers 10 waits, 11 does till 50, 13 was posted by 14, 15 has expired.
func shop(t *testing.T) *both {
	t.Helper()
	b := newBoth(t)
	b.must(opens(someone(1, 0), someone(2, debits), someone(3, credits), someone(4, 0), api.Account{Id: wide.Of(5), Ledger: 2, Code: 1}), 0, 0, 0, 0, 0)
	b.must(moves(wait(10, 1, 2, 10, 0, 0), wait(11, 1, 4, 9, 50, closeCredit), wait(13, 1, 2, 30, 60, 0), end(14, 13, 25, post), wait(15, 1, 2, 50, 5, 0)), 0, 0, 0, 0, 0)
	b.must(tick(7))
	return b
}
