package store_test

import (
	"encoding/binary"
	"slices"

	"bondstore/api"
)

// The sizes and limits that the chapters say.
const (
	owner      = 96
	mover      = 108
	named      = 16
	filterSize = 36
	mostOf2    = 1<<16 - 1
	mostOf4    = 1<<32 - 1
	mostTicks  = 1 << 40
	mostBytes  = 1 << 14
)

var low = binary.LittleEndian

// number is one of 128 bits, as 16 bytes behind others.
func number(b []byte, n api.Num) []byte { return low.AppendUint64(low.AppendUint64(b, n.Lo), n.Hi) }

// accountBytes are an account's behind others, and transferBytes a transfer's: of one that has none as much as there is room for.
func accountBytes(b []byte, a api.Account) []byte {
	b = number(number(number(b, a.Id), a.DebitsPending), a.DebitsPosted)
	b = low.AppendUint32(number(number(b, a.CreditsPending), a.CreditsPosted), uint32(a.Ledger))
	return low.AppendUint64(low.AppendUint16(low.AppendUint16(b, uint16(a.Code)), uint16(a.Flags)), uint64(a.Stamp))
}

func transferBytes(b []byte, x api.Transfer) []byte {
	b = number(number(number(number(number(b, x.Id), x.Debit), x.Credit), x.Amount), x.Pending)
	b = low.AppendUint32(low.AppendUint32(b, uint32(x.Timeout)), uint32(x.Ledger))
	b = low.AppendUint16(low.AppendUint16(b, uint16(x.Code)), uint16(x.Flags))
	return low.AppendUint64(low.AppendUint64(b, uint64(x.Stamp)), uint64(x.Born))
}

// list is the bytes of how many things there are, and of each of them, behind others.
func list[T any](b []byte, things []T, put func([]byte, T) []byte) []byte {
	b = append(b, byte(len(things)))
	for _, x := range things {
		b = put(b, x)
	}
	return b
}

// flag is a byte 1, or 0, behind others.
func flag(b []byte, yes bool) []byte {
	if yes {
		return append(b, 1)
	}
	return append(b, 0)
}

// bytesOf are a request's, whether it can be or not.
func bytesOf(q api.Request) string {
	b := []byte{byte(q.Op)}
	switch q.Op {
	case 1:
		b = list(b, q.Accounts, accountBytes)
	case 2:
		b = list(b, q.Transfers, transferBytes)
	case 3:
		b = low.AppendUint64(b, uint64(q.Now))
	case 4, 5:
		b = list(b, q.Ids, number)
	case 6:
		f := q.Filter
		b = low.AppendUint64(low.AppendUint64(number(b, f.Account), uint64(f.From)), uint64(f.To))
		b = append(flag(flag(flag(b, f.Debits), f.Credits), f.Latest), byte(f.Limit))
	}
	return string(b)
}

// replyBytes are a reply's.
func replyBytes(p api.Reply) string {
	b := list([]byte{byte(p.Err)}, p.Results, func(b []byte, n api.Result) []byte { return append(b, byte(n)) })
	return string(list(list(b, p.Accounts, accountBytes), p.Transfers, transferBytes))
}

// refusal are the bytes of a reply that tells an error.
func refusal(err api.Errno) string { return string([]byte{byte(err), 0, 0, 0}) }

// numberOf is the number of 128 bits that bytes begin with.
func numberOf(b []byte) api.Num { return api.Num{Lo: low.Uint64(b), Hi: low.Uint64(b[8:])} }

// accountOf is the account of 96 bytes, and transferOf the transfer of 108.
func accountOf(b []byte) api.Account {
	return api.Account{
		Id: numberOf(b), DebitsPending: numberOf(b[16:]), DebitsPosted: numberOf(b[32:]), CreditsPending: numberOf(b[48:]), CreditsPosted: numberOf(b[64:]),
		Ledger: int(low.Uint32(b[80:])), Code: int(low.Uint16(b[84:])), Flags: int(low.Uint16(b[86:])), Stamp: int(low.Uint64(b[88:])),
	}
}

func transferOf(b []byte) api.Transfer {
	return api.Transfer{
		Id: numberOf(b), Debit: numberOf(b[16:]), Credit: numberOf(b[32:]), Amount: numberOf(b[48:]), Pending: numberOf(b[64:]),
		Timeout: int(low.Uint32(b[80:])), Ledger: int(low.Uint32(b[84:])), Code: int(low.Uint16(b[88:])), Flags: int(low.Uint16(b[90:])),
		Stamp: int(low.Uint64(b[92:])), Born: int(low.Uint64(b[100:])),
	}
}

// things are those that lie one behind the other in bytes, each of one size.
func things[T any](b []byte, size int, of func([]byte) T) []T {
	var list []T
	for ; len(b) > 0; b = b[size:] {
		list = append(list, of(b))
	}
	return list
}

// itemSizes are how many bytes stand in a request behind its Op: of one whose items are counted, of each item; of the others, of all.
var itemSizes = []int{0, owner, mover, 8, named, named, filterSize}

// mostItems are how many items there are at most in a request.
var mostItems = []int{0, 8, 8, 0, 16, 16, 0}

// parse is the request whose bytes some are; false: they are none's.
func parse(s string) (api.Request, bool) {
	if s == "" || int(s[0]) >= len(itemSizes) {
		return api.Request{}, false
	}
	q, b := api.Request{Op: int(s[0])}, []byte(s[1:])
	size := itemSizes[q.Op]
	if most := mostItems[q.Op]; most > 0 {
		if len(b) == 0 || b[0] == 0 || int(b[0]) > most {
			return api.Request{}, false
		}
		size, b = size*int(b[0]), b[1:]
	}
	if size == 0 || len(b) != size {
		return api.Request{}, false
	}
	switch q.Op {
	case 1:
		q.Accounts = things(b, owner, accountOf)
	case 2:
		q.Transfers = things(b, mover, transferOf)
	case 3:
		q.Now = int(low.Uint64(b))
	case 4, 5:
		q.Ids = things(b, named, numberOf)
	case 6:
		q.Filter = api.Filter{Account: numberOf(b), From: int(low.Uint64(b[16:])), To: int(low.Uint64(b[24:])), Debits: b[32] == 1, Credits: b[33] == 1, Latest: b[34] == 1, Limit: int(b[35])}
	}
	return q, q.Op != 6 && q.Now >= 0 && q.Now <= mostTicks || q.Op == 6 && isFilter(q.Filter, b[32:35])
}

// isFilter is whether a filter can be, of which those are the bytes of its flags.
func isFilter(f api.Filter, flags []byte) bool {
	return slices.Max(flags) < 2 && f.From >= 0 && f.To >= 0 && f.Limit > 0 && f.Limit < 17 && (f.Debits || f.Credits)
}
