package store_test

import (
	"slices"
	"testing"

	"bondstore/api"
	"bondstore/books"
	"bondstore/platter"
	"bondstore/store"
	"bondstore/vault"
	"bondstore/wide"
	"bondstore/wire"
)

// newStore is a new one of so many sectors.
func newStore(t *testing.T, sectors int) *store.Store {
	t.Helper()
	s, err := store.New(sectors)
	if s == nil || err != api.OK {
		t.Fatalf("New(%d): %v, %d", sectors, s, err)
	}
	return s
}

// copyOf is a new store of such sectors as another one's disk has, all of which last.
func copyOf(t *testing.T, sectors []string) *store.Store {
	t.Helper()
	s := newStore(t, len(sectors))
	for i, b := range sectors {
		if err := s.Disk().Write(i, b); err != api.OK {
			t.Fatalf("Write(%d): %d", i, err)
		}
	}
	if s.Disk().Sync() != api.OK || s.Power(0, -1, 0) != api.OK {
		t.Fatal("it isn't opened")
	}
	return s
}

// sectorsOf are all sectors of a disk.
func sectorsOf(d *platter.Disk) []string {
	var list []string
	for i := range d.Sectors() {
		s, _ := d.Read(i)
		list = append(list, s)
	}
	return list
}

// ledgerOf is what a state tells, and told what a store does.
func ledgerOf(s *books.State) ledger {
	return ledger{made: s.Accounts(), kept: s.Keeps(), clock: s.Clock(), stamp: s.Stamp()}
}

func told(s *store.Store) ledger {
	l := ledgerOf(s.Books())
	l.seq = s.Seq()
	return l
}

// drawn is a ledger with the balances that come of its transfers: what a store of it is to tell.
func (l *ledger) drawn() ledger {
	return ledger{l.accounts(), l.kept, l.clock, l.stamp, l.seq}
}

func (l ledger) is(x ledger) bool {
	return slices.Equal(l.made, x.made) && slices.Equal(l.kept, x.kept) && l.clock == x.clock && l.stamp == x.stamp && l.seq == x.seq
}

// both is a store, and what its books should be.
type both struct {
	t *testing.T
	s *store.Store
	l ledger
}

func newBoth(t *testing.T, sectors int) *both {
	t.Helper()
	b := &both{t: t, s: newStore(t, sectors)}
	b.asks()
	return b
}

// asks holds the books to what they should be.
func (b *both) asks() {
	b.t.Helper()
	if got, want := told(b.s), b.l.drawn(); !got.is(want) {
		b.t.Fatalf("books %+v, not %+v", got, want)
	}
}

// bytes asks for any bytes, of a store whose disk refuses nothing, and answers the reply.
func (b *both) bytes(s string) api.Reply {
	b.t.Helper()
	want := b.l.reply(s)
	if got := b.s.Do(s); got != replyBytes(want) {
		b.t.Fatalf("Do(%x): %x, not %x", s, got, replyBytes(want))
	}
	return want
}

// do does a request, and asks what came of it.
func (b *both) do(q api.Request) api.Reply {
	b.t.Helper()
	p := b.bytes(bytesOf(q))
	b.asks()
	return p
}

// must does a request that can be, of which just these results come; mustAll requests of which all items are done.
func (b *both) must(q api.Request, want ...api.Result) {
	b.t.Helper()
	if p := b.do(q); p.Err != api.OK || !slices.Equal(p.Results, want) {
		b.t.Fatalf("Do(%+v): %+v, not %v", q, p, want)
	}
}

func (b *both) mustAll(list ...api.Request) {
	b.t.Helper()
	for _, q := range list {
		b.must(q, make([]api.Result, len(q.Accounts)+len(q.Transfers))...)
	}
}

// refused asks for a request that the disk refuses, or refused one ahead of: nothing has changed.
func (b *both) refused(q api.Request, want api.Errno) {
	b.t.Helper()
	if got := b.s.Do(bytesOf(q)); got != refusal(want) {
		b.t.Fatalf("Do(%+v): %x, not %d", q, got, want)
	}
	b.asks()
}

func (b *both) save(want api.Errno) {
	b.t.Helper()
	turn := b.s.Turn()
	if err := b.s.Save(); err != want {
		b.t.Fatalf("Save: %d, not %d", err, want)
	}
	if want == api.OK {
		turn++
	}
	if b.s.Turn() != turn {
		b.t.Fatalf("turn %d, not %d", b.s.Turn(), turn)
	}
	b.asks()
}

// power lets the power go; the books are one of those that they may be, if some are named, else as they were.
func (b *both) power(mask uint64, torn, cut int, may ...ledger) {
	b.t.Helper()
	if err := b.s.Power(mask, torn, cut); err != api.OK || b.s.Sick() {
		b.t.Fatalf("Power(%x, %d, %d): %d, sick %v", mask, torn, cut, err, b.s.Sick())
	}
	got := told(b.s)
	for _, l := range may {
		if got.is(l.drawn()) {
			b.l = l.copy()
			return
		}
	}
	if len(may) > 0 {
		b.t.Fatalf("books %+v, not one of %+v", got, may)
	}
	b.asks()
}

// powerAnyhow does so where nothing persists that isn't synced.
func (b *both) powerAnyhow() {
	b.t.Helper()
	b.power(0, -1, 0)
}

// behind is a ledger behind one more request.
func (l ledger) behind(q api.Request) ledger {
	x := l.copy()
	x.do(q)
	return x
}

// The requests that may change something.
func opens(list ...api.Account) api.Request { return api.Request{Op: 1, Accounts: list} }

func moves(list ...api.Transfer) api.Request { return api.Request{Op: 2, Transfers: list} }

func tick(now int) api.Request { return api.Request{Op: 3, Now: now} }

// find and moved ask for accounts and transfers by their names, of for those of an account.
func find(ids ...uint64) api.Request { return api.Request{Op: 4, Ids: names(ids)} }

func moved(ids ...uint64) api.Request { return api.Request{Op: 5, Ids: names(ids)} }

func of(id uint64, limit int) api.Request {
	return api.Request{Op: 6, Filter: api.Filter{Account: wide.Of(id), Debits: true, Credits: true, Limit: limit}}
}

func names(ids []uint64) []api.Num {
	var list []api.Num
	for _, id := range ids {
		list = append(list, wide.Of(id))
	}
	return list
}

// someone is an account of the ledger 1.
func someone(id uint64, flags int) api.Account {
	return api.Account{Id: wide.Of(id), Ledger: 1, Code: 1, Flags: flags}
}

// pay is a transfer within the ledger 1.
func pay(id, debit, credit, amount uint64, flags int) api.Transfer {
	return api.Transfer{Id: wide.Of(id), Debit: wide.Of(debit), Credit: wide.Of(credit), Amount: wide.Of(amount), Ledger: 1, Code: 1, Flags: flags}
}

// wait is such a transfer that waits, so long.
func wait(id, debit, credit, amount uint64, timeout, flags int) api.Transfer {
	x := pay(id, debit, credit, amount, pending|flags)
	x.Timeout = timeout
	return x
}

// end is a transfer that ends a pending one, and names nothing of it but its name.
func end(id, held, amount uint64, flags int) api.Transfer {
	return api.Transfer{Id: wide.Of(id), Pending: wide.Of(held), Amount: wide.Of(amount), Flags: flags}
}

// butA and butT are an account, and a transfer, with a change.
func butA(a api.Account, change func(*api.Account)) api.Account {
	change(&a)
	return a
}

func butT(x api.Transfer, change func(*api.Transfer)) api.Transfer {
	change(&x)
	return x
}

// shop has at 7 the accounts 1 to 4 of the ledger 1 (2's debits are limited, 3's credits are), of which 4 is closed, and 5 of the ledger 2. Of its transfers 10 waits, 11 does till 50, 13 was posted by 14, 15 has expired, 16 was voided by 17, 18 is done.
func shop(t *testing.T, sectors int) *both {
	t.Helper()
	b := newBoth(t, sectors)
	b.mustAll(
		opens(someone(1, 0), someone(2, debits), someone(3, credits), someone(4, 0), api.Account{Id: wide.Of(5), Ledger: 2, Code: 1}),
		moves(wait(10, 1, 2, 10, 0, 0), wait(11, 1, 4, 9, 50, closeCredit), wait(13, 1, 2, 30, 60, 0), end(14, 13, 25, post), wait(15, 1, 2, 50, 5, 0)),
		moves(wait(16, 1, 2, 8, 0, 0), end(17, 16, 8, void), pay(18, 2, 1, 5, 0)), tick(7),
	)
	return b
}

// everything asks for all that books with small names have.
func everything() []api.Request {
	return []api.Request{
		find(1, 2, 3, 4, 5, 6, 7, 8, 9, 10, 11, 12), moved(10, 11, 12, 13, 14, 15, 16, 17, 18, 19, 20, 21, 22, 23, 24, 25), of(1, 16), of(2, 3), of(3, 16), of(99, 1), moved(99),
		{Op: 6, Filter: api.Filter{Account: wide.Of(1), From: 3, To: 12, Credits: true, Latest: true, Limit: 5}},
	}
}

// twin is what the chapter says of a store, by the calls of the layers that it names.
type twin struct {
	d *platter.Disk
	v *vault.Vault
}

func newTwin(t *testing.T, sectors int) *twin {
	t.Helper()
	d := platter.New(sectors)
	v, err := vault.Open(d)
	if err != api.OK {
		t.Fatalf("Open: %d", err)
	}
	return &twin{d, v}
}

func (w *twin) do(b string) string {
	q, err := wire.Read(b)
	switch {
	case len(b) > mostBytes:
		return refusal(3)
	case err != api.OK:
		return refusal(4)
	}
	return wire.Reply(w.v.Do(q))
}

func (w *twin) power(mask uint64, torn, cut int) api.Errno {
	w.d.Crash(mask, torn, cut)
	v, err := vault.Open(w.d)
	if err == api.OK {
		w.v = v
	}
	return err
}

// pair is a store, and a twin.
type pair struct {
	t *testing.T
	s *store.Store
	w *twin
}

func newPair(t *testing.T, sectors int) *pair {
	t.Helper()
	p := &pair{t, newStore(t, sectors), newTwin(t, sectors)}
	p.asks()
	return p
}

// asks asks for all that both tell.
func (p *pair) asks() {
	p.t.Helper()
	s, v := p.s, p.w.v
	if s.Turn() != v.Turn() || s.Seq() != v.Seq() || s.Sick() != v.Sick() {
		p.t.Fatalf("turn %d, seq %d, sick %v; not %d, %d, %v", s.Turn(), s.Seq(), s.Sick(), v.Turn(), v.Seq(), v.Sick())
	}
	if got, want := ledgerOf(s.Books()), ledgerOf(v.Books()); !got.is(want) {
		p.t.Fatalf("books %+v, not %+v", got, want)
	}
	d, x := s.Disk(), p.w.d
	if d.Ops() != x.Ops() || d.Later() != x.Later() {
		p.t.Fatalf("%d operations, %d writes wait; not %d, %d", d.Ops(), d.Later(), x.Ops(), x.Later())
	}
	if got, want := sectorsOf(d), sectorsOf(x); !slices.Equal(got, want) {
		p.t.Fatalf("sectors %x, not %x", got, want)
	}
}

func (p *pair) do(b string) string {
	p.t.Helper()
	want := p.w.do(b)
	if got := p.s.Do(b); got != want {
		p.t.Fatalf("Do(%x): %x, not %x", b, got, want)
	}
	p.asks()
	return want
}

func (p *pair) save() api.Errno {
	p.t.Helper()
	want := p.w.v.Save()
	if got := p.s.Save(); got != want {
		p.t.Fatalf("Save: %d, not %d", got, want)
	}
	p.asks()
	return want
}

func (p *pair) power(mask uint64, torn, cut int) api.Errno {
	p.t.Helper()
	want := p.w.power(mask, torn, cut)
	if got := p.s.Power(mask, torn, cut); got != want {
		p.t.Fatalf("Power(%x, %d, %d): %d, not %d", mask, torn, cut, got, want)
	}
	p.asks()
	return want
}

func (p *pair) arm(n int) {
	p.s.Arm(n)
	p.w.d.Arm(n)
}

// write writes a sector of both disks, past the store.
func (p *pair) write(i int, s string) {
	p.t.Helper()
	if a, b := p.s.Disk().Write(i, s), p.w.d.Write(i, s); a != b {
		p.t.Fatalf("Write(%d): %d, not %d", i, a, b)
	}
	p.asks()
}
