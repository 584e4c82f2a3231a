package vault_test

import (
	"encoding/binary"
	"hash/crc32"
	"slices"
	"strings"
	"testing"

	"bondstore/api"
	"bondstore/ask"
	"bondstore/books"
	"bondstore/engine"
	"bondstore/platter"
	"bondstore/still"
	"bondstore/vault"
	"bondstore/wide"
	"bondstore/wire"
)

// The numbers that the chapters say.
const (
	most       = 1 << 60
	mostRecord = 1 << 15
	load       = 104
	ahead      = 12 // bytes of a record ahead of its own
)

// The flags of accounts and of transfers, as the document says them.
const (
	linked    = 1
	debits    = 2
	credits   = 4
	pending   = 2
	post      = 4
	void      = 8
	debitMost = 16
)

var castagnoli = crc32.MakeTable(crc32.Castagnoli)

// little answers a number's lowest bytes, the lowest first; number reads eight of them.
func little(size, n int) string {
	return string(binary.LittleEndian.AppendUint64(nil, uint64(n))[:size])
}

func number(s string) int {
	n := 0
	for i := range 8 {
		n |= int(s[i]) << (8 * i)
	}
	return n
}

// leafOf answers a sector with up to 104 bytes, by layer 5's words.
func leafOf(number, index int, data string) string {
	s := little(8, number) + little(2, index) + little(2, len(data)) + data + strings.Repeat("\x00", load-len(data))
	return s + little(4, int(crc32.Checksum([]byte(s), castagnoli))) + little(8, number)
}

// partsOf answers the sectors in which bytes lie.
func partsOf(number int, s string) []string {
	list := []string{leafOf(number, 0, s[:min(load, len(s))])}
	for i := load; i < len(s); i += load {
		list = append(list, leafOf(number, i/load, s[i:min(i+load, len(s))]))
	}
	return list
}

// takes answers how many sectors so many bytes do.
func takes(n int) int { return max(1, (n+load-1)/load) }

// recordOf are a record's bytes, by layer 6's words, and headOf a head's, by layer 8's.
func recordOf(seq int, s string) string { return little(8, seq) + little(4, len(s)) + s }

func headOf(turn, number, size, seq int) string {
	return little(8, turn) + little(8, number) + little(8, size) + little(8, seq)
}

// slotSize answers how many sectors each slot of a disk has, slotAt where the one of a turn begins, and journalAt where the journal does.
func slotSize(sectors int) int {
	size := 0
	for 5*(size+1) <= 2*(sectors-2) {
		size++
	}
	return size
}

func slotAt(sectors, turn int) int { return 2 + turn%2*slotSize(sectors) }

func journalAt(sectors int) int { return 2 + 2*slotSize(sectors) }

// model is what the chapters say of a vault, and of each sector of its disk.
type model struct {
	stands  []string
	later   int // how many writes aren't synced
	ops     int // how many operations were tried
	refuses int // which one from now on the disk refuses; 0: none
	books   *books.State
	turn    int
	seq     int
	at      int // where the next record begins
	sick    bool
}

// modelOf is what a disk's vault is when it is opened; false: its books aren't what the chapter says.
func modelOf(d *platter.Disk) (*model, bool) {
	m := &model{later: d.Later(), ops: d.Ops(), books: books.New(), at: journalAt(d.Sectors())}
	for i := range d.Sectors() {
		s, _ := d.Read(i)
		m.stands = append(m.stands, s)
	}
	b, is := m.newest()
	if !is {
		return nil, false
	}
	if m.turn > 0 {
		s, err := still.Read(b)
		if err != api.OK {
			return nil, false
		}
		m.books = s
	}
	return m, m.redo()
}

// taken answers so many bytes that lie from a place on, of one number, if each sector is just the one that it should be.
func (m *model) taken(from, to, n, size int) (string, bool) {
	if n < 1 || n > most || size < 0 || takes(size) > to-from {
		return "", false
	}
	s := ""
	for i := range takes(size) {
		s += m.stands[from+i][12 : 12+min(load, size-load*i)]
	}
	for i, part := range partsOf(n, s) {
		if m.stands[from+i] != part {
			return "", false
		}
	}
	return s, true
}

// newest finds the newest head, and answers the bytes that it tells of; false: they aren't there.
func (m *model) newest() (string, bool) {
	b, is := "", true
	for i := range 2 {
		h, ok := m.taken(i, i+1, number(m.stands[i]), 32)
		if !ok {
			continue
		}
		turn, n, size, seq := number(h), number(h[8:]), number(h[16:]), number(h[24:])
		can := turn >= 1 && turn <= most && n >= 1 && n <= most && size >= 0 && size <= 104*4096 && seq >= 0 && seq <= most
		if !can || turn%2 != i || turn <= m.turn {
			continue
		}
		from := slotAt(len(m.stands), turn)
		m.turn, m.seq = turn, seq
		b, is = m.taken(from, from+slotSize(len(m.stands)), n, size)
	}
	return b, is
}

// redo does what the journal's records are; false: one is no request that may change something.
func (m *model) redo() bool {
	for m.at < len(m.stands) {
		n := number(m.stands[m.at])
		length := 0
		for i := range 4 {
			length |= int(m.stands[m.at][20+i]) << (8 * i)
		}
		s, is := m.taken(m.at, len(m.stands), n, ahead+length)
		if !is || m.seq == most || length > mostRecord || s != recordOf(m.seq+1, s[ahead:]) {
			break
		}
		q, err := wire.Read(s[ahead:])
		if err != api.OK || q.Op > 3 {
			return false
		}
		engine.Do(m.books, q)
		m.seq++
		m.at += takes(len(s))
	}
	return true
}

// tries is an operation; false: the disk refuses it, and the vault is sick.
func (m *model) tries() bool {
	m.ops++
	if m.refuses--; m.refuses == 0 {
		m.sick = true
		return false
	}
	m.refuses = max(0, m.refuses)
	return true
}

// lasts writes sectors from a place on, and syncs.
func (m *model) lasts(from int, parts []string) api.Errno {
	for i, s := range parts {
		if !m.tries() {
			return api.ErrDisk
		}
		m.stands[from+i] = s
		m.later++
	}
	if !m.tries() {
		return api.ErrDisk
	}
	m.later = 0
	return api.OK
}

// settles syncs what isn't.
func (m *model) settles() api.Errno {
	if m.later == 0 {
		return api.OK
	}
	return m.lasts(0, nil)
}

// next is the number behind the greatest one that stands at any sector's beginning or end.
func (m *model) next() int {
	greatest := 0
	for _, s := range m.stands {
		for _, n := range []int{number(s), number(s[120:])} {
			if n <= most {
				greatest = max(greatest, n)
			}
		}
	}
	return greatest + 1
}

func (m *model) save() api.Errno {
	b, n := still.Bytes(m.books), m.next()
	switch {
	case m.sick:
		return api.ErrSick
	case takes(len(b)) > slotSize(len(m.stands)):
		return api.ErrLong
	}
	err := m.settles()
	if err == api.OK {
		err = m.lasts(slotAt(len(m.stands), m.turn+1), partsOf(n, b))
	}
	if err == api.OK {
		err = m.lasts((m.turn+1)%2, partsOf(n+1, headOf(m.turn+1, n, len(b), m.seq)))
	}
	if err == api.OK {
		m.turn++
		m.at = journalAt(len(m.stands))
	}
	return err
}

func (m *model) do(q api.Request) api.Reply {
	if q.Op < 1 || q.Op > 3 {
		return ask.Do(m.books, q)
	}
	b, err := wire.Bytes(q)
	if err != api.OK {
		return api.Reply{Err: api.ErrArg}
	}
	if m.sick {
		return api.Reply{Err: api.ErrSick}
	}
	many := takes(ahead + len(b))
	if many > len(m.stands)-m.at {
		if err := m.save(); err != api.OK {
			return api.Reply{Err: err}
		}
	}
	if many > len(m.stands)-m.at {
		return api.Reply{Err: api.ErrFull}
	}
	err = m.settles()
	if err == api.OK {
		err = m.lasts(m.at, partsOf(m.next(), recordOf(m.seq+1, b)))
	}
	if err != api.OK {
		return api.Reply{Err: err}
	}
	m.at += many
	m.seq++
	return engine.Do(m.books, q)
}

// both is a vault, its disk, and what they should be.
type both struct {
	t *testing.T
	d *platter.Disk
	v *vault.Vault
	m *model
}

// opened opens a disk's vault, which has books, and writes nothing.
func opened(t *testing.T, d *platter.Disk) *both {
	t.Helper()
	m, is := modelOf(d)
	if !is {
		t.Fatal("it has no books")
	}
	v, err := vault.Open(d)
	if err != api.OK || v == nil {
		t.Fatalf("Open: %d", err)
	}
	b := &both{t, d, v, m}
	b.asks()
	return b
}

// notOpened opens a disk that has no books.
func notOpened(t *testing.T, d *platter.Disk, want api.Errno) {
	t.Helper()
	ops, later := d.Ops(), d.Later()
	if v, err := vault.Open(d); v != nil || err != want {
		t.Fatalf("Open: %v, %d, not %d", v, err, want)
	}
	if d.Ops() != ops || d.Later() != later {
		t.Fatal("Open wrote something")
	}
}

func newBoth(t *testing.T, sectors int) *both {
	t.Helper()
	return opened(t, platter.New(sectors))
}

// asks asks the vault, and the disk, for all that they tell.
func (b *both) asks() {
	b.t.Helper()
	if b.v.Turn() != b.m.turn || b.v.Seq() != b.m.seq || b.v.Sick() != b.m.sick {
		b.t.Fatalf("turn %d, seq %d, sick %v; not %d, %d, %v", b.v.Turn(), b.v.Seq(), b.v.Sick(), b.m.turn, b.m.seq, b.m.sick)
	}
	if got, want := told(b.v), still.Bytes(b.m.books); got != want {
		b.t.Fatalf("books %x, not %x", got, want)
	}
	if b.d.Ops() != b.m.ops || b.d.Later() != b.m.later {
		b.t.Fatalf("%d operations, %d writes wait; not %d, %d", b.d.Ops(), b.d.Later(), b.m.ops, b.m.later)
	}
	for i, want := range b.m.stands {
		if s, err := b.d.Read(i); s != want || err != api.OK {
			b.t.Fatalf("sector %d: %x, not %x", i, s, want)
		}
	}
}

// do does a request, asks what came of it, and answers that.
func (b *both) do(q api.Request) api.Reply {
	b.t.Helper()
	want := b.m.do(q)
	got := b.v.Do(q)
	if !sameReply(got, want) {
		b.t.Fatalf("Do(%+v): %+v, not %+v", q, got, want)
	}
	b.asks()
	return got
}

// must does a request that is done whole; refused one that is answered with an error.
func (b *both) must(list ...api.Request) {
	b.t.Helper()
	for _, q := range list {
		p := b.do(q)
		for _, r := range p.Results {
			if r != api.Done {
				b.t.Fatalf("Do(%+v): %+v", q, p)
			}
		}
		if p.Err != api.OK {
			b.t.Fatalf("Do(%+v): %+v", q, p)
		}
	}
}

func (b *both) refused(q api.Request, want api.Errno) {
	b.t.Helper()
	was, seq := told(b.v), b.v.Seq()
	if p := b.do(q); !sameReply(p, api.Reply{Err: want}) {
		b.t.Fatalf("Do(%+v): %+v, not %d", q, p, want)
	}
	if told(b.v) != was || b.v.Seq() != seq {
		b.t.Fatal("something has changed")
	}
}

// save saves, and asks what came of that.
func (b *both) save(want api.Errno) {
	b.t.Helper()
	turn := b.v.Turn()
	if err := b.m.save(); err != want {
		b.t.Fatalf("to be saved: %d, not %d", err, want)
	}
	if err := b.v.Save(); err != want {
		b.t.Fatalf("Save: %d, not %d", err, want)
	}
	b.asks()
	if want == api.OK && b.v.Turn() != turn+1 {
		b.t.Fatalf("turn %d behind %d", b.v.Turn(), turn)
	}
}

// arm lets the disk refuse an operation.
func (b *both) arm(n int) {
	b.d.Arm(n)
	b.m.refuses = n
}

// again opens the disk once more, as it is: what is to be refused still is.
func (b *both) again() *both {
	b.t.Helper()
	x := opened(b.t, b.d)
	x.m.refuses = b.m.refuses
	return x
}

// power lets the power go, and opens the disk behind that; behindCrash does so where nothing persists that wasn't synced.
func (b *both) power(mask uint64, torn, cut int) *both {
	b.t.Helper()
	b.d.Crash(mask, torn, cut)
	return opened(b.t, b.d)
}

func (b *both) behindCrash() *both {
	b.t.Helper()
	return b.power(0, -1, 0)
}

// told are the bytes of a vault's books.
func told(v *vault.Vault) string { return still.Bytes(v.Books()) }

// sameReply is whether two replies are one, empty lists and none alike.
func sameReply(p, x api.Reply) bool {
	return p.Err == x.Err && slices.Equal(p.Results, x.Results) && slices.Equal(p.Accounts, x.Accounts) && slices.Equal(p.Transfers, x.Transfers)
}

// stands are all sectors of a disk, and diskOf is a disk of such ones, which last.
func stands(d *platter.Disk) []string {
	var list []string
	for i := range d.Sectors() {
		s, _ := d.Read(i)
		list = append(list, s)
	}
	return list
}

func diskOf(t *testing.T, sectors []string) *platter.Disk {
	t.Helper()
	d := platter.New(len(sectors))
	for i, s := range sectors {
		put(t, d, i, s)
	}
	if err := d.Sync(); err != api.OK {
		t.Fatal(err)
	}
	return d
}

// put writes sectors as they are, from a place on.
func put(t *testing.T, d *platter.Disk, at int, parts ...string) {
	t.Helper()
	for i, s := range parts {
		if err := d.Write(at+i, s); err != api.OK {
			t.Fatalf("Write(%d): %d", at+i, err)
		}
	}
}

// The requests that may change something.
func opens(list ...api.Account) api.Request { return api.Request{Op: 1, Accounts: list} }

func moves(list ...api.Transfer) api.Request { return api.Request{Op: 2, Transfers: list} }

func tick(now int) api.Request { return api.Request{Op: 3, Now: now} }

// find and moved ask for accounts and transfers by their names, of for those of an account.
func find(ids ...uint64) api.Request { return api.Request{Op: 4, Ids: names(ids)} }

func moved(ids ...uint64) api.Request { return api.Request{Op: 5, Ids: names(ids)} }

func of(id uint64, limit int) api.Request {
	return api.Request{Op: 6, Filter: api.Filter{Account: wide.Of(id), Debits: true, Credits: true, Limit: limit}}
}

func names(ids []uint64) []api.Num {
	var list []api.Num
	for _, id := range ids {
		list = append(list, wide.Of(id))
	}
	return list
}

// someone is an account of the ledger 1.
func someone(id uint64, flags int) api.Account {
	return api.Account{Id: wide.Of(id), Ledger: 1, Code: 1, Flags: flags}
}

// pay is a transfer within the ledger 1.
func pay(id, debit, credit, amount uint64, flags int) api.Transfer {
	return api.Transfer{Id: wide.Of(id), Debit: wide.Of(debit), Credit: wide.Of(credit), Amount: wide.Of(amount), Ledger: 1, Code: 1, Flags: flags}
}

// wait is such a transfer that waits, so long.
func wait(id, debit, credit, amount uint64, timeout int) api.Transfer {
	x := pay(id, debit, credit, amount, pending)
	x.Timeout = timeout
	return x
}

// end is a transfer that ends a pending one, and names nothing of it but its name.
func end(id, held, amount uint64, flags int) api.Transfer {
	return api.Transfer{Id: wide.Of(id), Pending: wide.Of(held), Amount: wide.Of(amount), Flags: flags}
}

// everything asks for all that books with small names have.
func everything() []api.Request {
	return []api.Request{
		find(1, 2, 3, 4, 5, 6, 7, 8), moved(10, 11, 12, 13, 14, 15, 16, 17, 18, 19, 20, 21, 22, 23, 24, 25), of(1, 16), of(2, 3), of(3, 16), of(99, 1),
		find(), moved(99), of(1, 0), of(1, 17), {}, {Op: 7}, {Op: -1},
	}
}
