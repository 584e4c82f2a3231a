package wire_test

import (
	"encoding/binary"
	"math"
	"math/rand"
	"slices"
	"testing"

	"bondstore/api"
	"bondstore/wide"
	"bondstore/wire"
)

// The sizes and limits that the chapters say.
const (
	owner      = 96
	mover      = 108
	named      = 16
	filterSize = 36
	mostBatch  = 8
	mostAnswer = 16
	mostOf2    = 1<<16 - 1
	mostOf4    = 1<<32 - 1
	mostTicks  = 1 << 40
)

// opSizes are how many bytes stand in a request behind its Op: of one whose items are counted, of each item; of the others, of all.
var opSizes = map[int]int{1: owner, 2: mover, 3: 8, 4: named, 5: named, 6: filterSize}

// within is whether a number is one of those from 0 to the greatest.
func within(n, greatest int) bool { return n >= 0 && n <= greatest }

// accountHas is whether an account has bytes, and transferHas whether a transfer has.
func accountHas(a api.Account) bool {
	return within(a.Ledger, mostOf4) && within(a.Code, mostOf2) && within(a.Flags, mostOf2)
}

func transferHas(x api.Transfer) bool {
	return within(x.Timeout, mostOf4) && within(x.Ledger, mostOf4) && within(x.Code, mostOf2) && within(x.Flags, mostOf2)
}

// requestHas is whether a request has bytes, by the chapters' words.
func requestHas(q api.Request) bool {
	some := func(n, most int) bool { return n > 0 && n <= most }
	switch q.Op {
	case 1:
		return some(len(q.Accounts), mostBatch) && !slices.ContainsFunc(q.Accounts, func(a api.Account) bool { return !accountHas(a) })
	case 2:
		return some(len(q.Transfers), mostBatch) && !slices.ContainsFunc(q.Transfers, func(x api.Transfer) bool { return !transferHas(x) })
	case 3:
		return within(q.Now, mostTicks)
	case 4, 5:
		return some(len(q.Ids), mostAnswer)
	case 6:
		f := q.Filter
		return f.From >= 0 && f.To >= 0 && some(f.Limit, mostAnswer) && (f.Debits || f.Credits)
	}
	return false
}

// replyHas is whether a reply has bytes.
func replyHas(p api.Reply) bool {
	return within(int(p.Err), 255) && !slices.ContainsFunc(p.Results, func(n api.Result) bool { return !within(int(n), 255) }) &&
		len(p.Results) <= mostAnswer && len(p.Accounts) <= mostAnswer && len(p.Transfers) <= mostAnswer &&
		!slices.ContainsFunc(p.Accounts, func(a api.Account) bool { return !accountHas(a) }) &&
		!slices.ContainsFunc(p.Transfers, func(x api.Transfer) bool { return !transferHas(x) })
}

var low = binary.LittleEndian

// number is one of 128 bits, as 16 bytes behind others.
func number(b []byte, n api.Num) []byte { return low.AppendUint64(low.AppendUint64(b, n.Lo), n.Hi) }

// accountBytes are an account's that has some, behind others.
func accountBytes(b []byte, a api.Account) []byte {
	b = number(number(number(b, a.Id), a.DebitsPending), a.DebitsPosted)
	b = low.AppendUint32(number(number(b, a.CreditsPending), a.CreditsPosted), uint32(a.Ledger))
	return low.AppendUint64(low.AppendUint16(low.AppendUint16(b, uint16(a.Code)), uint16(a.Flags)), uint64(a.Stamp))
}

// transferBytes are a transfer's that has some, behind others.
func transferBytes(b []byte, x api.Transfer) []byte {
	b = number(number(number(number(number(b, x.Id), x.Debit), x.Credit), x.Amount), x.Pending)
	b = low.AppendUint32(low.AppendUint32(b, uint32(x.Timeout)), uint32(x.Ledger))
	b = low.AppendUint16(low.AppendUint16(b, uint16(x.Code)), uint16(x.Flags))
	return low.AppendUint64(low.AppendUint64(b, uint64(x.Stamp)), uint64(x.Born))
}

// list is the bytes of how many things there are, and of each of them, behind others.
func list[T any](b []byte, things []T, put func([]byte, T) []byte) []byte {
	b = append(b, byte(len(things)))
	for _, x := range things {
		b = put(b, x)
	}
	return b
}

// flag is a byte 1, or 0, behind others.
func flag(b []byte, yes bool) []byte {
	if yes {
		return append(b, 1)
	}
	return append(b, 0)
}

// requestBytes are a request's, whether it has some or not: then what it is lies in them as far as there is room.
func requestBytes(q api.Request) string {
	b := []byte{byte(q.Op)}
	switch q.Op {
	case 1:
		b = list(b, q.Accounts, accountBytes)
	case 2:
		b = list(b, q.Transfers, transferBytes)
	case 3:
		b = low.AppendUint64(b, uint64(q.Now))
	case 4, 5:
		b = list(b, q.Ids, number)
	case 6:
		f := q.Filter
		b = low.AppendUint64(low.AppendUint64(number(b, f.Account), uint64(f.From)), uint64(f.To))
		b = append(flag(flag(flag(b, f.Debits), f.Credits), f.Latest), byte(f.Limit))
	}
	return string(b)
}

// replyBytes are a reply's, likewise.
func replyBytes(p api.Reply) string {
	b := list([]byte{byte(p.Err)}, p.Results, func(b []byte, n api.Result) []byte { return append(b, byte(n)) })
	return string(list(list(b, p.Accounts, accountBytes), p.Transfers, transferBytes))
}

// numberOf is the number of 128 bits that bytes begin with.
func numberOf(b []byte) api.Num { return api.Num{Lo: low.Uint64(b), Hi: low.Uint64(b[8:])} }

// accountOf is the account of 96 bytes.
func accountOf(b []byte) api.Account {
	return api.Account{
		Id: numberOf(b), DebitsPending: numberOf(b[16:]), DebitsPosted: numberOf(b[32:]), CreditsPending: numberOf(b[48:]), CreditsPosted: numberOf(b[64:]),
		Ledger: int(low.Uint32(b[80:])), Code: int(low.Uint16(b[84:])), Flags: int(low.Uint16(b[86:])), Stamp: int(low.Uint64(b[88:])),
	}
}

// transferOf is the transfer of 108 bytes.
func transferOf(b []byte) api.Transfer {
	return api.Transfer{
		Id: numberOf(b), Debit: numberOf(b[16:]), Credit: numberOf(b[32:]), Amount: numberOf(b[48:]), Pending: numberOf(b[64:]),
		Timeout: int(low.Uint32(b[80:])), Ledger: int(low.Uint32(b[84:])), Code: int(low.Uint16(b[88:])), Flags: int(low.Uint16(b[90:])),
		Stamp: int(low.Uint64(b[92:])), Born: int(low.Uint64(b[100:])),
	}
}

// things are those that lie one behind the other in bytes, each of one size.
func things[T any](b []byte, size int, of func([]byte) T) []T {
	var list []T
	for ; len(b) > 0; b = b[size:] {
		list = append(list, of(b))
	}
	return list
}

// parse is the request whose bytes some are; false: they are none's.
func parse(s string) (api.Request, bool) {
	if s == "" {
		return api.Request{}, false
	}
	q, b := api.Request{Op: int(s[0])}, []byte(s[1:])
	size := opSizes[q.Op]
	if q.Op != 3 && q.Op != 6 && len(b) > 0 {
		size, b = size*int(b[0]), b[1:]
	}
	if size == 0 || len(b) != size {
		return api.Request{}, false
	}
	switch q.Op {
	case 1:
		q.Accounts = things(b, owner, accountOf)
	case 2:
		q.Transfers = things(b, mover, transferOf)
	case 3:
		q.Now = int(low.Uint64(b))
	case 4, 5:
		q.Ids = things(b, named, numberOf)
	case 6:
		if b[32] > 1 || b[33] > 1 || b[34] > 1 {
			return api.Request{}, false
		}
		q.Filter = api.Filter{Account: numberOf(b), From: int(low.Uint64(b[16:])), To: int(low.Uint64(b[24:])), Debits: b[32] == 1, Credits: b[33] == 1, Latest: b[34] == 1, Limit: int(b[35])}
	}
	if !requestHas(q) {
		return api.Request{}, false
	}
	return q, true
}

// counted are the bytes of the things that bytes begin with, and those behind them; false: there are fewer, or there mustn't be so many.
func counted(b []byte, size int) ([]byte, []byte, bool) {
	if len(b) == 0 || b[0] > mostAnswer || len(b) < 1+int(b[0])*size {
		return nil, nil, false
	}
	end := 1 + int(b[0])*size
	return b[1:end], b[end:], true
}

// parseReply is the reply whose bytes some are; false: they are none's.
func parseReply(s string) (api.Reply, bool) {
	if s == "" {
		return api.Reply{}, false
	}
	results, b, is := counted([]byte(s[1:]), 1)
	accounts, b, areAccounts := counted(b, owner)
	transfers, b, areTransfers := counted(b, mover)
	if !is || !areAccounts || !areTransfers || len(b) != 0 {
		return api.Reply{}, false
	}
	return api.Reply{
		Err: api.Errno(s[0]), Results: things(results, 1, func(b []byte) api.Result { return api.Result(b[0]) }),
		Accounts: things(accounts, owner, accountOf), Transfers: things(transfers, mover, transferOf),
	}, true
}

// sameRequest is whether two requests are one, empty lists and none alike; sameReply likewise.
func sameRequest(q, x api.Request) bool {
	return q.Op == x.Op && q.Now == x.Now && q.Filter == x.Filter && slices.Equal(q.Accounts, x.Accounts) && slices.Equal(q.Transfers, x.Transfers) && slices.Equal(q.Ids, x.Ids)
}

func sameReply(p, x api.Reply) bool {
	return p.Err == x.Err && slices.Equal(p.Results, x.Results) && slices.Equal(p.Accounts, x.Accounts) && slices.Equal(p.Transfers, x.Transfers)
}

// bare is a request with nothing but what its Op names.
func bare(q api.Request) api.Request {
	x := api.Request{Op: q.Op}
	switch q.Op {
	case 1:
		x.Accounts = q.Accounts
	case 2:
		x.Transfers = q.Transfers
	case 3:
		x.Now = q.Now
	case 4, 5:
		x.Ids = q.Ids
	case 6:
		x.Filter = q.Filter
	}
	return x
}

// told asks for a request's bytes, as they are to be, and answers them; none, if it has none. What has some is read from them.
func told(t *testing.T, q api.Request) string {
	t.Helper()
	has := requestHas(q)
	if good := wire.Good(q); good != has {
		t.Fatalf("Good(%+v): %v", q, good)
	}
	s, err := wire.Bytes(q)
	if !has {
		if s != "" || err != 1 {
			t.Fatalf("%+v: %x, %d", q, s, err)
		}
		return ""
	}
	if want := requestBytes(q); s != want || err != 0 {
		t.Fatalf("%+v: %x, %d, not %x", q, s, err, want)
	}
	x := read(t, s)
	if !sameRequest(x, bare(q)) {
		t.Fatalf("%+v, not %+v", x, bare(q))
	}
	return s
}

// read reads bytes, as they are to be read, and answers the request; an empty one, if they are none's. What is read has just these bytes.
func read(t *testing.T, s string) api.Request {
	t.Helper()
	q, err := wire.Read(s)
	want, is := parse(s)
	if !sameRequest(q, want) || (err == 0) != is || !is && err != 4 {
		t.Fatalf("%x: %+v, %d, not %+v, %v", s, q, err, want, is)
	}
	if is {
		if b, err := wire.Bytes(q); b != s || err != 0 || !wire.Good(q) {
			t.Fatalf("%x, %d, not %x", b, err, s)
		}
	}
	return q
}

// refused reads bytes that are no request's.
func refused(t *testing.T, s string) {
	t.Helper()
	if q, is := parse(s); is {
		t.Fatalf("%x is that of %+v", s, q)
	}
	read(t, s)
}

// toldReply, readReply and refusedReply are likewise of replies; of one that has no bytes those of ErrLong are told.
func toldReply(t *testing.T, p api.Reply) string {
	t.Helper()
	s, want, kept := wire.Reply(p), "\x03\x00\x00\x00", api.Reply{Err: 3}
	if replyHas(p) {
		want, kept = replyBytes(p), p
	}
	if s != want {
		t.Fatalf("%+v: %x, not %x", p, s, want)
	}
	if x := readReply(t, s); !sameReply(x, kept) {
		t.Fatalf("%+v, not %+v", x, kept)
	}
	return s
}

func readReply(t *testing.T, s string) api.Reply {
	t.Helper()
	p, err := wire.ReadReply(s)
	want, is := parseReply(s)
	if !sameReply(p, want) || (err == 0) != is || !is && err != 4 {
		t.Fatalf("%x: %+v, %d, not %+v, %v", s, p, err, want, is)
	}
	if is && wire.Reply(p) != s {
		t.Fatalf("%x, not %x", wire.Reply(p), s)
	}
	return p
}

func refusedReply(t *testing.T, s string) {
	t.Helper()
	if p, is := parseReply(s); is {
		t.Fatalf("%x is that of %+v", s, p)
	}
	readReply(t, s)
}

// chances picks things at random, alike in each run.
type chances struct{ *rand.Rand }

func newChances(seed int64) chances { return chances{rand.New(rand.NewSource(seed))} }

// number is one of 128 bits, of all kinds.
func (c chances) number() api.Num {
	return [...]api.Num{{}, wide.Of(uint64(c.Intn(300))), wide.Most, {Hi: c.Uint64(), Lo: c.Uint64()}, {Hi: 1 << c.Intn(64)}, {Lo: 1 << c.Intn(64)}}[c.Intn(6)]
}

// upTo is a number from 0 to a greatest one, often at an edge.
func (c chances) upTo(most int) int {
	return [...]int{0, 1, most, most - 1, most / 2, c.Intn(most + 1), c.Intn(most + 1)}[c.Intn(7)]
}

// any is any number.
func (c chances) any() int {
	return [...]int{0, 1, -1, 300, math.MaxInt, math.MinInt, 1 << c.Intn(63), int(c.Uint64())}[c.Intn(8)]
}

// account is one that has bytes, and transfer likewise.
func (c chances) account() api.Account {
	return api.Account{
		Id: c.number(), DebitsPending: c.number(), DebitsPosted: c.number(), CreditsPending: c.number(), CreditsPosted: c.number(),
		Ledger: c.upTo(mostOf4), Code: c.upTo(mostOf2), Flags: c.upTo(mostOf2), Stamp: c.any(),
	}
}

func (c chances) transfer() api.Transfer {
	return api.Transfer{
		Id: c.number(), Debit: c.number(), Credit: c.number(), Amount: c.number(), Pending: c.number(),
		Timeout: c.upTo(mostOf4), Ledger: c.upTo(mostOf4), Code: c.upTo(mostOf2), Flags: c.upTo(mostOf2), Stamp: c.any(), Born: c.any(),
	}
}

// result is one that has bytes.
func (c chances) result() api.Result { return api.Result(c.upTo(255)) }

// times are so many things.
func times[T any](n int, one func() T) []T {
	var list []T
	for range n {
		list = append(list, one())
	}
	return list
}

// filter is one that can be.
func (c chances) filter() api.Filter {
	debits := c.Intn(2) == 0
	return api.Filter{
		Account: c.number(), From: c.upTo(math.MaxInt - 1), To: c.upTo(math.MaxInt - 1),
		Debits: debits, Credits: !debits || c.Intn(2) == 0, Latest: c.Intn(2) == 0, Limit: 1 + c.upTo(mostAnswer-1),
	}
}

// of is a request that has bytes, and nothing but what its Op names, with so many items.
func (c chances) of(op, items int) api.Request {
	return bare(api.Request{
		Op: op, Accounts: times(items, c.account), Transfers: times(items, c.transfer), Ids: times(items, c.number),
		Now: c.upTo(mostTicks), Filter: c.filter(),
	})
}

// request is such a one of any Op.
func (c chances) request() api.Request {
	op := 1 + c.Intn(6)
	if op == 4 || op == 5 {
		return c.of(op, 1+c.Intn(mostAnswer))
	}
	return c.of(op, 1+c.Intn(mostBatch))
}

// reply is one that has bytes, with at most so many items of each kind.
func (c chances) reply(most int) api.Reply {
	return api.Reply{Err: api.Errno(c.upTo(255)), Results: times(c.Intn(most+1), c.result), Accounts: times(c.Intn(most+1), c.account), Transfers: times(c.Intn(most+1), c.transfer)}
}
