package wire_test

import (
	"math"
	"reflect"
	"slices"
	"strings"
	"testing"

	"bondstore/api"
	"bondstore/wide"
	"bondstore/wire"
)

// requests are some of each Op that have bytes.
func requests() []api.Request {
	c := newChances(22)
	var list []api.Request
	for op := 1; op <= 6; op++ {
		list = append(list, c.of(op, 1), c.of(op, 3), c.of(op, mostBatch))
	}
	return append(list, c.of(4, mostAnswer), c.of(5, mostAnswer))
}

// with are bytes, of which some at a place are others.
func with(s string, at int, other string) string { return s[:at] + other + s[at+len(other):] }

// one is a text of one byte.
func one(n int) string { return string([]byte{byte(n)}) }

func TestP22_1Example(t *testing.T) {
	want := "\x03\x01\x00\x00\x00\x00\x00\x00\x00"
	if s, err := wire.Bytes(api.Request{Op: api.OpTick, Now: 1}); s != want || err != api.OK {
		t.Errorf("%x, %d", s, err)
	}
	if q, err := wire.Read(want); err != api.OK || !sameRequest(q, api.Request{Op: 3, Now: 1}) {
		t.Errorf("%+v, %d", q, err)
	}
}

// fifteen are the noughts behind a small number of 128 bits.
var fifteen = strings.Repeat("\x00", 15)

// smallTransfer is a transfer whose fields count on from a number, and smallBytes its bytes.
func smallTransfer(n int) api.Transfer {
	id := func(i int) api.Num { return wide.Of(uint64(n + i)) }
	return api.Transfer{Id: id(0), Debit: id(1), Credit: id(2), Amount: id(3), Pending: id(4), Timeout: n + 5, Ledger: n + 6, Code: n + 7, Flags: n + 8, Stamp: n + 9, Born: n + 10}
}

func smallBytes(n int) string {
	b := ""
	for i := range 5 {
		b += one(n+i) + fifteen
	}
	return b + one(n+5) + "\x00\x00\x00" + one(n+6) + "\x00\x00\x00" + one(n+7) + "\x00" + one(n+8) + "\x00" + one(n+9) + fifteen[:7] + one(n+10) + fifteen[:7]
}

// greatAccount is an account with bytes of all kinds, and greatBytes are these.
func greatAccount() api.Account {
	return api.Account{
		Id: api.Num{Hi: 0x1112131415161718, Lo: 0x2122232425262728}, DebitsPending: wide.Of(3), DebitsPosted: wide.Of(4), CreditsPending: wide.Of(5), CreditsPosted: wide.Of(6),
		Ledger: 0x31323334, Code: 0x4142, Flags: 0x5152, Stamp: 0x6162,
	}
}

var greatBytes = "\x28\x27\x26\x25\x24\x23\x22\x21\x18\x17\x16\x15\x14\x13\x12\x11" + "\x03" + fifteen + "\x04" + fifteen + "\x05" + fifteen + "\x06" + fifteen +
	"\x34\x33\x32\x31" + "\x42\x41" + "\x52\x51" + "\x62\x61\x00\x00\x00\x00\x00\x00"

// TestP22_1ByHand has requests whose bytes are written out one by one.
func TestP22_1ByHand(t *testing.T) {
	far := api.Num{Hi: 0x0102030405060708, Lo: 0x090a0b0c0d0e0f10}
	farBytes := "\x10\x0f\x0e\x0d\x0c\x0b\x0a\x09\x08\x07\x06\x05\x04\x03\x02\x01"
	for _, c := range []struct {
		q    api.Request
		want string
	}{
		{api.Request{Op: 1, Accounts: []api.Account{greatAccount()}}, "\x01\x01" + greatBytes},
		{api.Request{Op: 1, Accounts: []api.Account{{}, greatAccount()}}, "\x01\x02" + strings.Repeat("\x00", 96) + greatBytes},
		{api.Request{Op: 2, Transfers: []api.Transfer{smallTransfer(7)}}, "\x02\x01" + smallBytes(7)},
		{api.Request{Op: 2, Transfers: []api.Transfer{smallTransfer(9), smallTransfer(200), {}}}, "\x02\x03" + smallBytes(9) + smallBytes(200) + strings.Repeat("\x00", 108)},
		{api.Request{Op: 3}, "\x03\x00\x00\x00\x00\x00\x00\x00\x00"},
		{api.Request{Op: 3, Now: 0x0102030405}, "\x03\x05\x04\x03\x02\x01\x00\x00\x00"},
		{api.Request{Op: 3, Now: 1 << 40}, "\x03\x00\x00\x00\x00\x00\x01\x00\x00"},
		{api.Request{Op: 4, Ids: []api.Num{far}}, "\x04\x01" + farBytes},
		{api.Request{Op: 5, Ids: []api.Num{wide.Of(9), far, {}}}, "\x05\x03\x09" + fifteen + farBytes + "\x00" + fifteen},
		{api.Request{Op: 6, Filter: api.Filter{Account: far, From: 0x0102, To: 0x030405, Debits: true, Limit: 16}},
			"\x06" + farBytes + "\x02\x01\x00\x00\x00\x00\x00\x00" + "\x05\x04\x03\x00\x00\x00\x00\x00" + "\x01\x00\x00" + "\x10"},
		{api.Request{Op: 6, Filter: api.Filter{Credits: true, Latest: true, To: math.MaxInt, Limit: 1}},
			"\x06\x00" + fifteen + "\x00\x00\x00\x00\x00\x00\x00\x00" + "\xff\xff\xff\xff\xff\xff\xff\x7f" + "\x00\x01\x01" + "\x01"},
	} {
		if s, err := wire.Bytes(c.q); s != c.want || err != api.OK || !wire.Good(c.q) {
			t.Errorf("%+v: %x, %d, not %x", c.q, s, err, c.want)
		}
		if q, err := wire.Read(c.want); err != api.OK || !sameRequest(q, c.q) {
			t.Errorf("%x: %+v, %d, not %+v", c.want, q, err, c.q)
		}
	}
}

func TestP22_1Requests(t *testing.T) {
	for _, q := range requests() {
		if told(t, q) == "" {
			t.Errorf("%+v has no bytes", q)
		}
	}
}

// TestP22_1Items has requests of each number of items.
func TestP22_1Items(t *testing.T) {
	c := newChances(1)
	for op := 1; op <= 6; op++ {
		for _, n := range append(counts(), 512, 65536+1) {
			q := c.of(op, n)
			most := mostBatch
			if op == 4 || op == 5 {
				most = mostAnswer
			}
			is := op == 3 || op == 6 || n > 0 && n <= most
			if s := told(t, q); (s != "") != is {
				t.Errorf("%d items, Op %d: %x", n, op, s)
			}
			// Bytes that tell the number rightly are read, if there may be so many.
			if n < 256 {
				read(t, requestBytes(q))
			}
		}
	}
}

// counts are numbers of items, up to those of which a byte tells the least part alone.
func counts() []int {
	var list []int
	for n := range 40 {
		list = append(list, n)
	}
	return append(list, 127, 128, 129, 254, 255, 256, 257, 258, 264, 265, 272, 273)
}

// odd are numbers at which a field of two or four bytes, or the sign, turns.
var odd = []int{0, 1, 255, 256, mostOf2 - 1, mostOf2, mostOf2 + 1, mostOf2 + 2, 1<<31 - 1, 1 << 31, mostOf4 - 1, mostOf4, mostOf4 + 1, mostOf4 + 2, 1 << 40, math.MaxInt, -1, -2, -256, -1 << 16, -1 << 32, -1 << 40, math.MinInt, math.MinInt + 1}

// accountFields change one field of an account each, and transferFields one of a transfer.
var accountFields = map[string]func(a *api.Account, n int){
	"Ledger": func(a *api.Account, n int) { a.Ledger = n },
	"Code":   func(a *api.Account, n int) { a.Code = n },
	"Flags":  func(a *api.Account, n int) { a.Flags = n },
	"Stamp":  func(a *api.Account, n int) { a.Stamp = n },
}

var transferFields = map[string]func(x *api.Transfer, n int){
	"Timeout": func(x *api.Transfer, n int) { x.Timeout = n },
	"Ledger":  func(x *api.Transfer, n int) { x.Ledger = n },
	"Code":    func(x *api.Transfer, n int) { x.Code = n },
	"Flags":   func(x *api.Transfer, n int) { x.Flags = n },
	"Stamp":   func(x *api.Transfer, n int) { x.Stamp = n },
	"Born":    func(x *api.Transfer, n int) { x.Born = n },
}

// mosts are the greatest numbers of those fields that have one.
var mosts = map[string]int{"Timeout": mostOf4, "Ledger": mostOf4, "Code": mostOf2, "Flags": mostOf2}

// fits is whether a field may have a number.
func fits(field string, n int) bool {
	most, bounded := mosts[field]
	return !bounded || n >= 0 && n <= most
}

// TestP22_1WithoutBytes has accounts and transfers at and beyond the edges of what has bytes, at each place of a batch; of the other Ops they don't matter.
func TestP22_1WithoutBytes(t *testing.T) {
	c := newChances(2)
	for _, items := range []int{1, 2, 3, mostBatch} {
		for at := range items {
			for _, n := range odd {
				for name, set := range accountFields {
					q := c.of(1, items)
					set(&q.Accounts[at], n)
					if s := told(t, q); (s != "") != fits(name, n) {
						t.Errorf("%s %d, account %d of %d: %x", name, n, at, items, s)
					}
					elsewhere(t, c, q)
				}
				for name, set := range transferFields {
					q := c.of(2, items)
					set(&q.Transfers[at], n)
					if s := told(t, q); (s != "") != fits(name, n) {
						t.Errorf("%s %d, transfer %d of %d: %x", name, n, at, items, s)
					}
					elsewhere(t, c, q)
				}
			}
		}
	}
}

// elsewhere puts a request's items into requests of which other Ops don't name them.
func elsewhere(t *testing.T, c chances, q api.Request) {
	t.Helper()
	op := 1 + (q.Op+c.Intn(5))%6
	x := c.of(op, 2)
	want := told(t, x)
	x.Accounts, x.Transfers = append(x.Accounts, q.Accounts...), append(x.Transfers, q.Transfers...)
	if s := told(t, x); op != 1 && op != 2 && s != want {
		t.Fatalf("Op %d: %x, not %x", op, s, want)
	}
}

// TestP22_1OthersDontMatter has requests with more than their Op names, which is wrong by itself, or not: it isn't in the bytes.
func TestP22_1OthersDontMatter(t *testing.T) {
	c := newChances(3)
	for _, q := range requests() {
		want := told(t, q)
		for _, x := range []api.Request{
			{Accounts: times(2, c.account), Transfers: times(2, c.transfer), Now: 7, Ids: times(2, c.number), Filter: c.filter()},
			{Accounts: times(9, c.account), Transfers: times(9, c.transfer), Now: -1, Ids: times(17, c.number), Filter: api.Filter{From: -1, To: -1, Limit: 17}},
			{Accounts: []api.Account{{Ledger: -1}}, Transfers: []api.Transfer{{Timeout: -1}}, Now: math.MaxInt, Ids: times(300, c.number), Filter: api.Filter{Limit: -1}},
			{Accounts: []api.Account{}, Transfers: []api.Transfer{}, Ids: []api.Num{}},
		} {
			x.Op = q.Op
			switch q.Op {
			case 1:
				x.Accounts = q.Accounts
			case 2:
				x.Transfers = q.Transfers
			case 3:
				x.Now = q.Now
			case 4, 5:
				x.Ids = q.Ids
			case 6:
				x.Filter = q.Filter
			}
			if s := told(t, x); s != want {
				t.Errorf("%+v: %x, not %x", x, s, want)
			}
		}
	}
}

// TestP22_1Ops asks with Ops of all kinds: there are six.
func TestP22_1Ops(t *testing.T) {
	c := newChances(4)
	for _, op := range append(odd, 2, 3, 4, 5, 6, 7, 8, 9, 10, 254, 257, 258, 259, 260, 261, 262, 263, 512, 65537, 1<<32+3, -250, -253, -255) {
		for range 4 {
			q := api.Request{Op: op, Accounts: times(2, c.account), Transfers: times(3, c.transfer), Now: 5, Ids: times(4, c.number), Filter: c.filter()}
			if s := told(t, q); (s != "") != (op >= 1 && op <= 6) {
				t.Errorf("Op %d: %x", op, s)
			}
		}
	}
	told(t, api.Request{})
}

// ticks are times, and stamps, of which just the first ones can be a clock's, and none behind those is below 0.
var ticks = []int{0, 1, 255, 256, 1<<32 - 1, 1 << 32, 1<<40 - 1, 1 << 40, 1<<40 + 1, 1 << 41, 1 << 48, 1 << 56, 1<<56 + 1, math.MaxInt - 1, math.MaxInt, -1, -2, -256, -1 << 40, -1 << 56, math.MinInt + 1, math.MinInt}

func TestP22_1Ticks(t *testing.T) {
	for i, n := range ticks {
		q := api.Request{Op: 3, Now: n}
		if s := told(t, q); (s != "") != (i < 8) {
			t.Errorf("Now %d: %x", n, s)
		}
		if x := read(t, requestBytes(q)); (x.Op == 3) != (i < 8) {
			t.Errorf("Now %d: %+v", n, x)
		}
	}
}

func TestP22_1Filters(t *testing.T) {
	limits := append(counts(), -1, -2, -16, -240, -255, math.MaxInt, math.MinInt, 1<<32+1, 1<<16+1)
	for _, from := range ticks {
		for _, to := range ticks {
			for bits := range 8 {
				for _, limit := range []int{0, 1, 5, 16, 17} {
					aFilter(t, api.Filter{Account: wide.Of(3), From: from, To: to, Debits: bits&1 != 0, Credits: bits&2 != 0, Latest: bits&4 != 0, Limit: limit})
				}
			}
		}
	}
	for _, limit := range limits {
		for bits := range 8 {
			aFilter(t, api.Filter{From: 1, Debits: bits&1 != 0, Credits: bits&2 != 0, Latest: bits&4 != 0, Limit: limit})
		}
	}
	// Bounds that let nothing through, and names at the edges, can be asked for.
	for _, id := range []api.Num{{}, wide.Of(1), wide.Most, {Hi: 1}} {
		if s := told(t, api.Request{Op: 6, Filter: api.Filter{Account: id, From: 9, To: 2, Credits: true, Limit: 1}}); len(s) != 37 {
			t.Errorf("%x", s)
		}
	}
}

// aFilter asks for the bytes of a request with a filter, and reads what the filter's would be.
func aFilter(t *testing.T, f api.Filter) {
	t.Helper()
	q := api.Request{Op: 6, Filter: f}
	is := f.From >= 0 && f.To >= 0 && (f.Debits || f.Credits) && f.Limit > 0 && f.Limit < 17
	if s := told(t, q); (s != "") != is {
		t.Fatalf("%+v: %x", f, s)
	}
	if x := read(t, requestBytes(q)); f.Limit >= 0 && f.Limit < 256 && (x.Op == 6) != is {
		t.Fatalf("%+v: %+v", f, x)
	}
}

// TestP22_1FilterBytes reads a filter with each byte at each place.
func TestP22_1FilterBytes(t *testing.T) {
	for _, f := range []api.Filter{{Debits: true, Limit: 1}, {Credits: true, Latest: true, Limit: 16}, {Debits: true, Credits: true, From: 5, To: 9, Limit: 7}} {
		s := told(t, api.Request{Op: 6, Filter: f})
		for at := range len(s) {
			for n := range 256 {
				read(t, with(s, at, one(n)))
			}
		}
		// A flag's byte is 0 or 1, and nothing else.
		for at := 33; at < 36; at++ {
			for n := 2; n < 256; n++ {
				refused(t, with(s, at, one(n)))
			}
		}
	}
}

// TestP22_1NoRequests reads bytes that are none's.
func TestP22_1NoRequests(t *testing.T) {
	for _, s := range []string{"", "\x00", "\x00\x00", "\x07", "\x07\x00", "\x01", "\x01\x00", "\x02\x00", "\x04\x00", "\x05\x00", "\x06", "\x06\x00", "\x03", "\x01\x01", "\x02\x09", "\x04\x11", "\x04\xff", "\x01\xff", "tick 5", "\xff\xff\xff"} {
		q, err := wire.Read(s)
		if err != api.ErrForm || !reflect.DeepEqual(q, api.Request{}) {
			t.Errorf("%x: %+v, %d", s, q, err)
		}
	}
}

// TestP22_1FirstByte reads bytes with each first one, and of each length that some request has.
func TestP22_1FirstByte(t *testing.T) {
	for _, q := range requests() {
		s := told(t, q)
		for n := range 256 {
			read(t, with(s, 0, one(n)))
			if n == 0 || n > 6 {
				refused(t, with(s, 0, one(n)))
			}
		}
	}
	// Those of names are the same but for the Op: both are read.
	s := told(t, api.Request{Op: 4, Ids: []api.Num{wide.Of(1)}})
	if q := read(t, with(s, 0, "\x05")); q.Op != 5 {
		t.Errorf("%+v", q)
	}
}

// TestP22_1Counts reads bytes that tell of other numbers of items than there are.
func TestP22_1Counts(t *testing.T) {
	for _, q := range requests() {
		if q.Op == 3 || q.Op == 6 {
			continue
		}
		s := told(t, q)
		for n := range 256 {
			if n != int(s[1]) {
				refused(t, with(s, 1, one(n)))
			}
		}
	}
	// 27 accounts are as long as 24 transfers, and 6 names as one account.
	refused(t, "\x01\x1b"+strings.Repeat("\x00", 27*96))
	refused(t, "\x02\x18"+strings.Repeat("\x00", 27*96))
	read(t, "\x04\x06"+strings.Repeat("\x00", 96))
	read(t, "\x01\x01"+strings.Repeat("\x00", 96))
}

// TestP22_1TooMany reads bytes of more items than there may be, of which all are told rightly.
func TestP22_1TooMany(t *testing.T) {
	for op, size := range opSizes {
		if op == 3 || op == 6 {
			continue
		}
		for n := range 256 {
			s := one(op) + one(n) + strings.Repeat("\x01", n*size)
			most := mostBatch
			if op > 3 {
				most = mostAnswer
			}
			if q := read(t, s); (q.Op == op) != (n > 0 && n <= most) {
				t.Errorf("Op %d, %d items: %+v", op, n, q)
			}
		}
	}
}

// TestP22_1Cut reads bytes cut at each place, from both ends.
func TestP22_1Cut(t *testing.T) {
	for _, q := range requests() {
		s := told(t, q)
		for n := range len(s) {
			refused(t, s[:n])
			read(t, s[n:])
		}
	}
}

// TestP22_1Longer reads bytes with others behind, and ahead of them.
func TestP22_1Longer(t *testing.T) {
	for _, q := range requests() {
		s := told(t, q)
		for n := 1; n < 260; n++ {
			for _, b := range []string{"\x00", "\x01", "\xff"} {
				refused(t, s+strings.Repeat(b, n))
				read(t, strings.Repeat(b, n)+s)
			}
		}
		refused(t, s+s)
		refused(t, s+told(t, api.Request{Op: 3}))
	}
}

// TestP22_1BitByBit reads a request's bytes with each bit turned.
func TestP22_1BitByBit(t *testing.T) {
	for _, q := range requests() {
		s := told(t, q)
		for at := range len(s) {
			for bit := range 8 {
				read(t, with(s, at, one(int(s[at]^1<<bit))))
			}
		}
	}
}

// spare is a list with room behind it, in which the others lie.
func spare[T any](list []T, others ...T) []T {
	return append(slices.Clone(list), others...)[:len(list)]
}

// TestP22_1AskedAreKept asks for bytes of lists with spare room: neither they nor that is changed.
func TestP22_1AskedAreKept(t *testing.T) {
	c := newChances(5)
	for _, items := range []int{0, 1, 3, 8, 9, 16, 17, 30} {
		for op := range 8 {
			q := api.Request{Op: op, Now: 5, Filter: c.filter()}
			q.Accounts, q.Transfers, q.Ids = spare(times(items, c.account), c.account()), spare(times(items, c.transfer), c.transfer()), spare(times(items, c.number), c.number())
			was := q
			was.Accounts, was.Transfers, was.Ids = slices.Clone(q.Accounts[:items+1]), slices.Clone(q.Transfers[:items+1]), slices.Clone(q.Ids[:items+1])
			told(t, q)
			q.Accounts, q.Transfers, q.Ids = q.Accounts[:items+1], q.Transfers[:items+1], q.Ids[:items+1]
			if !sameRequest(q, was) {
				t.Fatalf("%+v, not %+v", q, was)
			}
		}
	}
}

// TestP22_1AnswersAreTheirOwn reads bytes twice, and writes into what was read first.
func TestP22_1AnswersAreTheirOwn(t *testing.T) {
	for _, q := range requests() {
		s := told(t, q)
		x, y := read(t, s), read(t, s)
		clear(x.Accounts)
		clear(x.Transfers)
		clear(x.Ids)
		_, _, _ = append(x.Accounts, api.Account{}), append(x.Transfers, api.Transfer{}), append(x.Ids, api.Num{})
		if !sameRequest(y, q) || told(t, q) != s || !sameRequest(read(t, s), q) {
			t.Fatalf("%+v, not %+v", y, q)
		}
	}
}

// TestP22_1BytesAreTheirOwn writes into a request behind its bytes.
func TestP22_1BytesAreTheirOwn(t *testing.T) {
	for _, q := range requests() {
		s, _ := wire.Bytes(q)
		was := strings.Clone(s)
		clear(q.Accounts)
		clear(q.Transfers)
		clear(q.Ids)
		if s != was {
			t.Fatalf("%x, not %x", s, was)
		}
	}
}

// TestP22_1EmptyAndNil asks with lists that are empty, and that are none: both mean the same.
func TestP22_1EmptyAndNil(t *testing.T) {
	for op := range 8 {
		told(t, api.Request{Op: op})
		told(t, api.Request{Op: op, Accounts: []api.Account{}, Transfers: []api.Transfer{}, Ids: []api.Num{}})
	}
}
