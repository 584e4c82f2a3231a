package wire_test

import (
	"math"
	"reflect"
	"slices"
	"strings"
	"testing"

	"bondstore/api"
	"bondstore/wide"
	"bondstore/wire"
)

// long are the bytes of what has none.
const long = "\x03\x00\x00\x00"

// replies are some of each kind that have bytes.
func replies() []api.Reply {
	c := newChances(23)
	list := []api.Reply{{}, {Err: 3}, {Err: 255}, {Results: []api.Result{0}}, {Err: 60, Results: times(16, c.result), Accounts: times(16, c.account), Transfers: times(16, c.transfer)}}
	list = append(list, api.Reply{Results: times(8, c.result)}, api.Reply{Accounts: times(16, c.account)}, api.Reply{Transfers: times(16, c.transfer)})
	for range 6 {
		list = append(list, c.reply(4))
	}
	return list
}

// TestP22_1ReplyByHand has replies whose bytes are written out one by one.
func TestP22_1ReplyByHand(t *testing.T) {
	nought := strings.Repeat("\x00", 96)
	for _, c := range []struct {
		p    api.Reply
		want string
	}{
		{api.Reply{}, "\x00\x00\x00\x00"},
		{api.Reply{Err: api.ErrForm}, "\x04\x00\x00\x00"},
		{api.Reply{Err: api.ErrLine}, "\x3c\x00\x00\x00"},
		{api.Reply{Results: []api.Result{api.Done, api.AmountZero, api.StoreFull}}, "\x00\x03\x00\x12\x23\x00\x00"},
		{api.Reply{Results: []api.Result{0, 18}, Accounts: []api.Account{{Id: wide.Of(1)}}}, "\x00\x02\x00\x12\x01\x01" + nought[:95] + "\x00"},
		{api.Reply{Accounts: []api.Account{greatAccount(), {}}}, "\x00\x00\x02" + greatBytes + nought + "\x00"},
		{api.Reply{Transfers: []api.Transfer{smallTransfer(5), smallTransfer(90)}}, "\x00\x00\x00\x02" + smallBytes(5) + smallBytes(90)},
		{api.Reply{Err: 255, Results: []api.Result{255}, Accounts: []api.Account{greatAccount()}, Transfers: []api.Transfer{smallTransfer(20)}}, "\xff\x01\xff\x01" + greatBytes + "\x01" + smallBytes(20)},
	} {
		if s := wire.Reply(c.p); s != c.want {
			t.Errorf("%+v: %x, not %x", c.p, s, c.want)
		}
		if p, err := wire.ReadReply(c.want); err != api.OK || !sameReply(p, c.p) {
			t.Errorf("%x: %+v, %d, not %+v", c.want, p, err, c.p)
		}
	}
}

func TestP22_1Replies(t *testing.T) {
	for _, p := range replies() {
		if s := toldReply(t, p); len(s) != 4+len(p.Results)+96*len(p.Accounts)+108*len(p.Transfers) {
			t.Errorf("%+v: %x", p, s)
		}
	}
}

// TestP22_1ReplyItems has replies of each number of items of each kind.
func TestP22_1ReplyItems(t *testing.T) {
	c := newChances(6)
	for _, n := range append(counts(), 512, 65536+1) {
		for kind := range 3 {
			p := c.reply(2)
			p.Err = 9
			switch kind {
			case 0:
				p.Results = times(n, c.result)
			case 1:
				p.Accounts = times(n, c.account)
			case 2:
				p.Transfers = times(n, c.transfer)
			}
			if s := toldReply(t, p); (s == long) != (n > 16) {
				t.Errorf("%d items of kind %d: %x", n, kind, s)
			}
			// Bytes that tell the number rightly are read, if there may be so many.
			if n < 256 {
				if x := readReply(t, replyBytes(p)); (x.Err == 9) != (n <= 16) {
					t.Errorf("%d items of kind %d: %+v", n, kind, x)
				}
			}
		}
	}
}

// codes are numbers of errors and results, of which just the first ones have bytes.
var codes = []int{0, 1, 2, 3, 9, 35, 36, 60, 61, 127, 128, 254, 255, 256, 257, 259, 300, 511, 512, 65536, 1 << 32, 1<<32 + 1, math.MaxInt, -1, -2, -255, -256, -253, -1 << 32, math.MinInt}

func TestP22_1Codes(t *testing.T) {
	c := newChances(7)
	for i, n := range codes {
		has := i < 13
		if s := toldReply(t, api.Reply{Err: api.Errno(n)}); has && s != one(n)+"\x00\x00\x00" || !has && s != long {
			t.Errorf("Err %d: %x", n, s)
		}
		for _, items := range []int{1, 2, 8, 16} {
			for at := range items {
				p := api.Reply{Results: times(items, c.result), Accounts: times(1, c.account)}
				p.Results[at] = api.Result(n)
				if s := toldReply(t, p); (s == long) == has {
					t.Errorf("result %d of %d, %d: %x", at, items, n, s)
				}
			}
		}
	}
	for n := range 256 {
		if p := readReply(t, one(n)+"\x01"+one(255-n)+"\x00\x00"); int(p.Err) != n || len(p.Results) != 1 || int(p.Results[0]) != 255-n {
			t.Errorf("%d: %+v", n, p)
		}
	}
}

// TestP22_1ReplyWithoutBytes has accounts and transfers at and beyond the edges of what has bytes, at each place.
func TestP22_1ReplyWithoutBytes(t *testing.T) {
	c := newChances(8)
	for _, items := range []int{1, 3, 16} {
		for at := range items {
			for _, n := range odd {
				for name, set := range accountFields {
					p := api.Reply{Err: 9, Accounts: times(items, c.account), Transfers: times(1, c.transfer)}
					set(&p.Accounts[at], n)
					if s := toldReply(t, p); (s == long) == fits(name, n) {
						t.Errorf("%s %d, account %d of %d: %x", name, n, at, items, s)
					}
				}
				for name, set := range transferFields {
					p := api.Reply{Err: 9, Transfers: times(items, c.transfer), Accounts: times(1, c.account)}
					set(&p.Transfers[at], n)
					if s := toldReply(t, p); (s == long) == fits(name, n) {
						t.Errorf("%s %d, transfer %d of %d: %x", name, n, at, items, s)
					}
				}
			}
		}
	}
}

// TestP22_1LongAlone has replies with all that a reply may have, and one thing that it mustn't: of all that there is nothing in the bytes but ErrLong.
func TestP22_1LongAlone(t *testing.T) {
	c := newChances(9)
	whole := func() api.Reply {
		return api.Reply{Err: 7, Results: times(3, c.result), Accounts: times(3, c.account), Transfers: times(3, c.transfer)}
	}
	for i, spoil := range []func(p *api.Reply){
		func(p *api.Reply) { p.Err = 256 }, func(p *api.Reply) { p.Err = -1 },
		func(p *api.Reply) { p.Results[2] = 256 }, func(p *api.Reply) { p.Results[0] = -1 },
		func(p *api.Reply) { p.Results = times(17, c.result) }, func(p *api.Reply) { p.Accounts = times(17, c.account) }, func(p *api.Reply) { p.Transfers = times(17, c.transfer) },
		func(p *api.Reply) { p.Accounts[1].Code = -1 }, func(p *api.Reply) { p.Transfers[2].Timeout = 1 << 32 },
	} {
		p := whole()
		if s := toldReply(t, p); s == long {
			t.Fatalf("%+v has no bytes", p)
		}
		spoil(&p)
		if s := wire.Reply(p); s != long {
			t.Errorf("%d: %x", i, s)
		}
	}
	if p, err := wire.ReadReply(long); err != api.OK || !sameReply(p, api.Reply{Err: api.ErrLong}) {
		t.Errorf("%+v, %d", p, err)
	}
}

// TestP22_1NoReplies reads bytes that are none's.
func TestP22_1NoReplies(t *testing.T) {
	for _, s := range []string{"", "\x00", "\x00\x00", "\x00\x00\x00", "\x00\x00\x00\x00\x00", "\x00\x11\x00\x00", "\x00\x01\x00\x00", "\x00\x00\x01\x00", "\x00\x00\x00\x01", "\x00\x00\xff\x00", "\xff\xff\xff\xff", "no reply"} {
		p, err := wire.ReadReply(s)
		if err != api.ErrForm || !reflect.DeepEqual(p, api.Reply{}) {
			t.Errorf("%x: %+v, %d", s, p, err)
		}
	}
}

// TestP22_1ReplyCounts reads bytes that tell of other numbers of items than there are.
func TestP22_1ReplyCounts(t *testing.T) {
	for _, p := range replies() {
		s := toldReply(t, p)
		results := 1
		accounts := results + 1 + len(p.Results)
		transfers := accounts + 1 + 96*len(p.Accounts)
		for _, at := range []int{results, accounts, transfers} {
			for n := range 256 {
				readReply(t, with(s, at, one(n)))
			}
		}
	}
}

// TestP22_1ReplyTooMany reads bytes of more items than there may be, of which all are told rightly.
func TestP22_1ReplyTooMany(t *testing.T) {
	for n := range 256 {
		for i, s := range []string{
			"\x07" + one(n) + strings.Repeat("\x01", n) + "\x00\x00",
			"\x07\x00" + one(n) + strings.Repeat("\x01", 96*n) + "\x00",
			"\x07\x00\x00" + one(n) + strings.Repeat("\x01", 108*n),
			"\x07" + one(n) + strings.Repeat("\x01", n) + one(n) + strings.Repeat("\x02", 96*n) + one(n) + strings.Repeat("\x03", 108*n),
		} {
			if p := readReply(t, s); (p.Err == 7) != (n <= 16) {
				t.Errorf("%d items, kind %d: %+v", n, i, p)
			}
		}
	}
}

// TestP22_1ReplyCut reads bytes cut at each place, from both ends.
func TestP22_1ReplyCut(t *testing.T) {
	for _, p := range replies() {
		s := toldReply(t, p)
		for n := range len(s) {
			refusedReply(t, s[:n])
			readReply(t, s[n:])
		}
	}
}

// TestP22_1ReplyLonger reads bytes with others behind, and ahead of them.
func TestP22_1ReplyLonger(t *testing.T) {
	for _, p := range replies() {
		s := toldReply(t, p)
		for n := 1; n < 260; n++ {
			for _, b := range []string{"\x00", "\x01", "\xff"} {
				refusedReply(t, s+strings.Repeat(b, n))
				readReply(t, strings.Repeat(b, n)+s)
			}
		}
		refusedReply(t, s+s)
	}
}

// TestP22_1ReplyBitByBit reads a reply's bytes with each bit turned.
func TestP22_1ReplyBitByBit(t *testing.T) {
	for _, p := range replies() {
		s := toldReply(t, p)
		for at := range len(s) {
			for bit := range 8 {
				readReply(t, with(s, at, one(int(s[at]^1<<bit))))
			}
		}
	}
}

// TestP22_1ToldAreKept asks for bytes of lists with spare room: neither they nor that is changed.
func TestP22_1ToldAreKept(t *testing.T) {
	c := newChances(10)
	for _, items := range []int{0, 1, 3, 16, 17, 30} {
		p := api.Reply{Results: spare(times(items, c.result), 5), Accounts: spare(times(items, c.account), c.account()), Transfers: spare(times(items, c.transfer), c.transfer())}
		was := api.Reply{Results: slices.Clone(p.Results[:items+1]), Accounts: slices.Clone(p.Accounts[:items+1]), Transfers: slices.Clone(p.Transfers[:items+1])}
		s := toldReply(t, p)
		p.Results, p.Accounts, p.Transfers = p.Results[:items+1], p.Accounts[:items+1], p.Transfers[:items+1]
		if !sameReply(p, was) {
			t.Fatalf("%+v, not %+v", p, was)
		}
		kept := strings.Clone(s)
		clear(p.Results)
		clear(p.Accounts)
		clear(p.Transfers)
		if s != kept {
			t.Fatalf("%x, not %x", s, kept)
		}
	}
}

// TestP22_1RepliesAreTheirOwn reads bytes twice, and writes into what was read first.
func TestP22_1RepliesAreTheirOwn(t *testing.T) {
	for _, p := range replies() {
		s := toldReply(t, p)
		x, y := readReply(t, s), readReply(t, s)
		clear(x.Results)
		clear(x.Accounts)
		clear(x.Transfers)
		_, _, _ = append(x.Results, 5), append(x.Accounts, greatAccount()), append(x.Transfers, smallTransfer(5))
		if !sameReply(y, p) || !sameReply(readReply(t, s), p) {
			t.Fatalf("%+v, not %+v", y, p)
		}
	}
}
