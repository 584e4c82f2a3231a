package still_test

import (
	"encoding/binary"
	"math"
	"slices"
	"testing"

	"bondstore/api"
	"bondstore/books"
	"bondstore/engine"
	"bondstore/still"
	"bondstore/wide"
)

// The flags of accounts and of transfers, as the document says them.
const (
	linked      = 1
	debits      = 2
	credits     = 4
	pending     = 2
	post        = 4
	void        = 8
	debitMost   = 16
	creditMost  = 32
	closeDebit  = 64
	closeCredit = 128
)

// The sizes that the chapters say.
const (
	head    = 21
	owner   = 96
	mover   = 108
	keeping = 217
)

// model is a state as what it tells as a whole.
type model struct {
	accounts []api.Account
	kept     []api.Kept
	clock    int
	stamp    int
}

// modelOf is what a state tells; nothing, of none.
func modelOf(s *books.State) model {
	return model{s.Accounts(), s.Keeps(), s.Clock(), s.Stamp()}
}

func (m model) is(other model) bool {
	return slices.Equal(m.accounts, other.accounts) && slices.Equal(m.kept, other.kept) && m.clock == other.clock && m.stamp == other.stamp
}

// clone is one whose lists may be written into.
func (m model) clone() model {
	m.accounts, m.kept = slices.Clone(m.accounts), slices.Clone(m.kept)
	return m
}

// load is the state of a model's parts.
func (m model) load(t *testing.T) *books.State {
	t.Helper()
	s, err := books.Load(m.accounts, m.kept, m.clock, m.stamp)
	if err != api.OK {
		t.Fatalf("Load(%+v): %d", m, err)
	}
	return s
}

var low = binary.LittleEndian

// number is one of 128 bits, as 16 bytes.
func number(b []byte, n api.Num) []byte { return low.AppendUint64(low.AppendUint64(b, n.Lo), n.Hi) }

// accountBytes are an account's; noughts of one that has none.
func accountBytes(a api.Account) []byte {
	if a.Ledger < 0 || a.Ledger > 0xffffffff || a.Code < 0 || a.Code > 0xffff || a.Flags < 0 || a.Flags > 0xffff {
		return make([]byte, owner)
	}
	b := number(number(number(nil, a.Id), a.DebitsPending), a.DebitsPosted)
	b = low.AppendUint32(number(number(b, a.CreditsPending), a.CreditsPosted), uint32(a.Ledger))
	return low.AppendUint64(low.AppendUint16(low.AppendUint16(b, uint16(a.Code)), uint16(a.Flags)), uint64(a.Stamp))
}

// transferBytes are a transfer's; noughts of one that has none.
func transferBytes(x api.Transfer) []byte {
	if x.Timeout < 0 || x.Timeout > 0xffffffff || x.Ledger < 0 || x.Ledger > 0xffffffff || x.Code < 0 || x.Code > 0xffff || x.Flags < 0 || x.Flags > 0xffff {
		return make([]byte, mover)
	}
	b := number(number(number(number(number(nil, x.Id), x.Debit), x.Credit), x.Amount), x.Pending)
	b = low.AppendUint32(low.AppendUint32(b, uint32(x.Timeout)), uint32(x.Ledger))
	b = low.AppendUint16(low.AppendUint16(b, uint16(x.Code)), uint16(x.Flags))
	return low.AppendUint64(low.AppendUint64(b, uint64(x.Stamp)), uint64(x.Born))
}

// bytes are a model's, whether a state may have its parts or not.
func (m model) bytes() string {
	b := low.AppendUint64(low.AppendUint64([]byte{1}, uint64(m.clock)), uint64(m.stamp))
	b = low.AppendUint16(low.AppendUint16(b, uint16(len(m.accounts))), uint16(len(m.kept)))
	for _, a := range m.accounts {
		b = append(b, accountBytes(a)...)
	}
	for _, k := range m.kept {
		b = append(b, transferBytes(k.Asked)...)
		b = append(b, transferBytes(k.Move)...)
		b = append(b, byte(k.Fate))
	}
	return string(b)
}

// numberAt is the number of 128 bits whose bytes are at a place.
func numberAt(b []byte, at int) api.Num {
	return api.Num{Lo: low.Uint64(b[at:]), Hi: low.Uint64(b[at+8:])}
}

// accountOf is the account of 96 bytes.
func accountOf(b []byte) api.Account {
	return api.Account{
		Id: numberAt(b, 0), DebitsPending: numberAt(b, 16), DebitsPosted: numberAt(b, 32), CreditsPending: numberAt(b, 48), CreditsPosted: numberAt(b, 64),
		Ledger: int(low.Uint32(b[80:])), Code: int(low.Uint16(b[84:])), Flags: int(low.Uint16(b[86:])), Stamp: int(low.Uint64(b[88:])),
	}
}

// transferOf is the transfer of 108 bytes.
func transferOf(b []byte) api.Transfer {
	return api.Transfer{
		Id: numberAt(b, 0), Debit: numberAt(b, 16), Credit: numberAt(b, 32), Amount: numberAt(b, 48), Pending: numberAt(b, 64),
		Timeout: int(low.Uint32(b[80:])), Ledger: int(low.Uint32(b[84:])), Code: int(low.Uint16(b[88:])), Flags: int(low.Uint16(b[90:])),
		Stamp: int(low.Uint64(b[92:])), Born: int(low.Uint64(b[100:])),
	}
}

// parse is the model whose bytes some are; false: they are none's.
func parse(s string) (model, bool) {
	b := []byte(s)
	if len(b) < head || b[0] != 1 {
		return model{}, false
	}
	m := model{clock: int(low.Uint64(b[1:])), stamp: int(low.Uint64(b[9:]))}
	accounts, kept := int(low.Uint16(b[17:])), int(low.Uint16(b[19:]))
	if len(b) != head+owner*accounts+keeping*kept {
		return model{}, false
	}
	b = b[head:]
	for ; accounts > 0; accounts-- {
		m.accounts = append(m.accounts, accountOf(b))
		b = b[owner:]
	}
	for ; kept > 0; kept-- {
		m.kept = append(m.kept, api.Kept{Asked: transferOf(b), Move: transferOf(b[mover:]), Fate: int(b[2*mover])})
		b = b[keeping:]
	}
	return m, m.can()
}

// can is whether a state may be loaded of a model's parts.
func (m model) can() bool {
	owners, moves, stamps := map[api.Num]int{}, map[api.Num]int{}, map[int]int{}
	for _, a := range m.accounts {
		owners[a.Id]++
	}
	fates := true
	for _, k := range m.kept {
		moves[k.Move.Id]++
		stamps[k.Move.Stamp]++
		fates = fates && k.Fate > -1 && k.Fate < 5
	}
	return fates && len(owners) == len(m.accounts) && len(moves) == len(m.kept) && len(stamps) == len(m.kept) &&
		len(m.accounts) < 33 && len(m.kept) < 97 && m.clock > -1 && m.clock <= 1<<40 && m.stamp > -1 && m.stamp <= 1<<40
}

// read reads bytes, as they are to be read, and answers the state; none, if they are none's.
func read(t *testing.T, b string) *books.State {
	t.Helper()
	s, err := still.Read(b)
	m, is := parse(b)
	switch {
	case !is && (err != 4 || s != nil):
		t.Fatalf("%d bytes, %x: %d, and a state: %v", len(b), b[:min(len(b), 300)], err, s != nil)
	case is && (err != 0 || s == nil):
		t.Fatalf("%d bytes, %x: %d, and a state: %v", len(b), b[:min(len(b), 300)], err, s != nil)
	case is && !modelOf(s).is(m):
		t.Fatalf("%+v, not %+v", modelOf(s), m)
	}
	return s
}

// refused reads bytes that are none's.
func refused(t *testing.T, b string) {
	t.Helper()
	if _, is := parse(b); is {
		t.Fatalf("%x is some state's", b)
	}
	read(t, b)
}

// told asks a state for its bytes, which change nothing of it.
func told(t *testing.T, s *books.State) string {
	t.Helper()
	m, mark := modelOf(s), s.Mark()
	b := still.Bytes(s)
	if want := m.bytes(); b != want {
		t.Fatalf("%d bytes, %x, not %d, %x", len(b), b, len(want), want)
	}
	if len(b) > still.Most || !modelOf(s).is(m) || s.Mark() != mark {
		t.Fatalf("%d bytes, %+v, %d changes, not %+v, %d", len(b), modelOf(s), s.Mark(), m, mark)
	}
	return b
}

// must does a request of which all items are done.
func must(t *testing.T, s *books.State, q api.Request) {
	t.Helper()
	r := engine.Do(s, q)
	if r.Err != 0 || slices.ContainsFunc(r.Results, func(x api.Result) bool { return x != 0 }) {
		t.Fatalf("%+v: %+v", q, r)
	}
}

// someone is an account of the ledger 1.
func someone(id uint64, flags int) api.Account {
	return api.Account{Id: wide.Of(id), Ledger: 1, Code: 1, Flags: flags}
}

// pay is a transfer within the ledger 1.
func pay(id, debit, credit, amount uint64, flags int) api.Transfer {
	return api.Transfer{Id: wide.Of(id), Debit: wide.Of(debit), Credit: wide.Of(credit), Amount: wide.Of(amount), Ledger: 1, Code: 1, Flags: flags}
}

// wait is such a transfer that waits, so long.
func wait(id, debit, credit, amount uint64, timeout, flags int) api.Transfer {
	x := pay(id, debit, credit, amount, pending|flags)
	x.Timeout = timeout
	return x
}

// end is a transfer that ends a pending one, and names nothing of it but its name.
func end(id, held, amount uint64, flags int) api.Transfer {
	return api.Transfer{Id: wide.Of(id), Pending: wide.Of(held), Amount: wide.Of(amount), Flags: flags}
}

// shop is a state at 9 of the accounts 1 to 4, and 6 (3 and 6 with limits), and of transfers of all kinds: 10 waits, 11 was posted by 12 in part, 13 voided by 14, 15 has expired, 19 waits and closed the account 4, 16 to 18 are done, 18 by less than what it asked for; 20 and 21 by turns, 22 waits till 30.
func shop(t *testing.T) *books.State {
	t.Helper()
	s := books.New()
	must(t, s, api.Request{Op: 1, Accounts: []api.Account{someone(1, 0), someone(2, 0), someone(3, debits), someone(4, 0)}})
	must(t, s, api.Request{Op: 2, Transfers: []api.Transfer{wait(10, 1, 2, 5, 0, 0), wait(11, 2, 3, 6, 50, 0), end(12, 11, 4, post), wait(13, 3, 1, 3, 9, 0), end(14, 13, 0, void), wait(15, 1, 2, 7, 8, closeDebit)}})
	must(t, s, api.Request{Op: 3, Now: 8})
	must(t, s, api.Request{Op: 2, Transfers: []api.Transfer{pay(16, 1, 2, 8, 0), pay(17, 2, 1, 9, 0), wait(19, 1, 4, 2, 0, closeCredit)}})
	must(t, s, api.Request{Op: 1, Accounts: []api.Account{someone(6, credits)}})
	must(t, s, api.Request{Op: 3, Now: 9})
	must(t, s, api.Request{Op: 2, Transfers: []api.Transfer{pay(18, 3, 1, 1000, debitMost), pay(20, 1, 3, 1, 0), pay(21, 3, 1, 1, linked), wait(22, 1, 2, 40, 21, 0)}})
	return s
}

// oddStamps are stamps of transfers that no requests could have made, in no order.
var oddStamps = []int{9, math.MaxInt, 3, 0, 4, math.MinInt, -1, 1, 2, 8, 1 << 40, math.MaxInt - 1, -2, 1<<40 + 1}

// odd are the parts of a state that no requests could have made, but that has bytes: names at the edges, the greatest numbers, transfers within one account, stamps of all kinds.
func odd() model {
	big := api.Num{Hi: 0x0102030405060708, Lo: 0x090a0b0c0d0e0f10}
	m := model{clock: 1 << 40, stamp: 1<<40 - 1, accounts: []api.Account{
		{Id: wide.Most, DebitsPending: big, DebitsPosted: wide.Most, Flags: 0xffff, Stamp: math.MaxInt},
		{Stamp: math.MinInt}, {Id: api.Num{Hi: 1}, CreditsPending: big, Ledger: 0xffffffff, Stamp: -1},
		{Id: wide.Of(1), CreditsPosted: big, Code: 0xffff, Ledger: 0x01020304},
	}}
	for i, stamp := range oddStamps {
		x := api.Transfer{Id: api.Num{Hi: uint64(i % 3), Lo: uint64(i)}, Debit: m.accounts[i%4].Id, Credit: m.accounts[i*5/7%4].Id, Amount: big, Flags: i * 5000, Code: 0xffff - i, Timeout: 0xffffffff - i*i, Ledger: i << 28, Stamp: stamp, Born: i*9 - 50}
		asked := api.Transfer{Id: wide.Of(1000), Debit: big, Credit: wide.Of(1), Pending: wide.Most, Stamp: -5, Born: math.MinInt}
		m.kept = append(m.kept, api.Kept{Asked: asked, Move: x, Fate: i % 5})
	}
	return m
}

// full is a state with no more room: 32 accounts, and 96 transfers, many of the account 1.
func full(t *testing.T) *books.State {
	t.Helper()
	s := books.New()
	for id := uint64(1); id <= 32; id++ {
		must(t, s, api.Request{Op: 1, Accounts: []api.Account{someone(id, 0)}})
	}
	for id := uint64(101); id <= 196; id++ {
		x := wait(id, 1, 2+id%7, id, int(id), 0)
		if id%3 == 0 {
			x.Debit, x.Credit = x.Credit, x.Debit
		}
		must(t, s, api.Request{Op: 2, Transfers: []api.Transfer{x}})
	}
	must(t, s, api.Request{Op: 3, Now: 150})
	return s
}

// states are of all kinds.
func states(t *testing.T) []*books.State {
	t.Helper()
	return []*books.State{books.New(), shop(t), modelOf(shop(t)).load(t), odd().load(t), full(t)}
}
