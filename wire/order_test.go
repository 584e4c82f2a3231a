package wire_test

import (
	"strings"
	"testing"

	"bondstore/api"
	"bondstore/ask"
	"bondstore/books"
	"bondstore/engine"
	"bondstore/wide"
	"bondstore/wire"
)

// TestP22_2Read has chance requests and replies: each is read from its bytes, as it was.
func TestP22_2Read(t *testing.T) {
	c := newChances(11)
	for range 20000 {
		q := c.request()
		if told(t, q) == "" {
			t.Fatalf("%+v has no bytes", q)
		}
		p := c.reply(c.Intn(17))
		if !replyHas(p) {
			t.Fatalf("%+v has no bytes", p)
		}
		toldReply(t, p)
	}
}

// TestP22_2Spoilt has chance requests and replies, of which one number is any: they are read from their bytes, or have none.
func TestP22_2Spoilt(t *testing.T) {
	c, none, some := newChances(12), 0, 0
	for range 20000 {
		q, n := c.request(), c.any()
		switch {
		case q.Op == 1:
			a := &q.Accounts[c.Intn(len(q.Accounts))]
			*[]*int{&a.Ledger, &a.Code, &a.Flags, &a.Stamp}[c.Intn(4)] = n
		case q.Op == 2:
			x := &q.Transfers[c.Intn(len(q.Transfers))]
			*[]*int{&x.Timeout, &x.Ledger, &x.Code, &x.Flags, &x.Stamp, &x.Born}[c.Intn(6)] = n
		case c.Intn(9) == 0:
			q.Op = n
		default:
			*[]*int{&q.Now, &q.Filter.From, &q.Filter.To, &q.Filter.Limit}[c.Intn(4)] = n
		}
		if told(t, q) == "" {
			none++
		} else {
			some++
		}
	}
	if none < 2000 || some < 2000 {
		t.Errorf("%d have no bytes, %d have", none, some)
	}
}

// TestP22_2ChanceBytes reads bytes by chance, many of which are as long as they tell: what is read has just these.
func TestP22_2ChanceBytes(t *testing.T) {
	c, reads := newChances(13), 0
	for range 40000 {
		op, n := c.Intn(8), c.Intn(11)
		size := opSizes[op]*n + 2
		if op == 3 || op == 6 {
			size = opSizes[op] + 1
		}
		b := make([]byte, size+c.Intn(20)/19)
		c.Read(b)
		b[0] = byte(op)
		switch op {
		case 3:
			b[8], b[7], b[6] = b[8]*byte(c.Intn(9)/8), b[7]*byte(c.Intn(9)/8), b[6]&1
		case 6:
			b[24], b[32], b[33], b[34], b[35], b[36] = b[24]&0x7f, b[32]&0x7f, b[33]%2, b[34]%2, b[35]%2, b[36]%18
		default:
			b[1] = byte(n)
		}
		if read(t, string(b)).Op != 0 {
			reads++
		}
	}
	if reads < 10000 || reads > 35000 {
		t.Errorf("%d are read", reads)
	}
}

// TestP22_2ChanceReplies reads bytes by chance as replies.
func TestP22_2ChanceReplies(t *testing.T) {
	c, reads := newChances(14), 0
	some := func(n, size int) string {
		b := make([]byte, n*size)
		c.Read(b)
		return one(n) + string(b)
	}
	for range 20000 {
		s := one(c.Intn(256)) + some(c.Intn(19), 1) + some(c.Intn(19)*c.Intn(2), owner) + some(c.Intn(19)*c.Intn(2), mover) + strings.Repeat("\x00", c.Intn(20)/19)
		if readReply(t, s); len(s) > 0 {
			if _, is := parseReply(s); is {
				reads++
			}
		}
	}
	if reads < 5000 || reads > 19000 {
		t.Errorf("%d are read", reads)
	}
}

// TestP22_2AnyBytes reads bytes of any kind, short ones all.
func TestP22_2AnyBytes(t *testing.T) {
	refused(t, "")
	refusedReply(t, "")
	for i := range 1 << 16 {
		s := string([]byte{byte(i), byte(i >> 8)})
		for _, s := range []string{s[:1], s, s + "\x00", s + "\x00\x00", s + "\x00\x00\x00"} {
			read(t, s)
			readReply(t, s)
		}
	}
	c := newChances(15)
	for range 20000 {
		b := make([]byte, c.Intn(400))
		c.Read(b)
		for i := range b {
			if c.Intn(3) != 0 {
				b[i] = byte(c.Intn(8))
			}
		}
		read(t, string(b))
		readReply(t, string(b))
	}
}

// TestP22_2Long reads very long bytes.
func TestP22_2Long(t *testing.T) {
	for op := range 256 {
		s := one(op) + strings.Repeat("\x01", 1<<16)
		refused(t, s)
		refusedReply(t, s)
	}
}

// do does a request, of either kind.
func do(s *books.State, q api.Request) api.Reply {
	if engine.Writes(q) {
		return engine.Do(s, q)
	}
	return ask.Do(s, q)
}

// ledgerRequest is one that often does something, or asks for something that is there.
func (c chances) ledgerRequest(s *books.State) api.Request {
	small := func(n int) api.Num { return wide.Of(uint64(1 + c.Intn(n))) }
	account := func() api.Account {
		return api.Account{Id: small(9), Ledger: 1, Code: 1, Flags: c.Intn(40) / 38 * 2}
	}
	transfer := func() api.Transfer {
		flags := []int{0, 0, 0, 2, 2, 4, 8, 1, 16}[c.Intn(9)]
		x := api.Transfer{Id: small(60), Debit: small(9), Credit: small(9), Amount: small(50), Ledger: 1, Code: 1, Flags: flags}
		if flags == 4 || flags == 8 {
			return api.Transfer{Id: x.Id, Pending: small(60), Flags: flags}
		}
		if flags == 2 {
			x.Timeout = c.Intn(5)
		}
		return x
	}
	return api.Request{
		Op: 1 + c.Intn(6), Accounts: times(1+c.Intn(4), account), Transfers: times(1+c.Intn(9), transfer), Now: s.Clock() + c.Intn(3),
		Ids:    times(1+c.Intn(17), func() api.Num { return small(60) }),
		Filter: api.Filter{Account: small(9), From: c.Intn(9), To: c.Intn(99), Debits: c.Intn(4) != 0, Credits: c.Intn(4) != 0, Latest: c.Intn(2) == 0, Limit: c.Intn(18)},
	}
}

// TestP22_2BooksGoOn does requests, and beside them those that are read from their bytes: the books stay alike, and each reply has bytes, and is read from them.
func TestP22_2BooksGoOn(t *testing.T) {
	results, accounts, transfers := 0, 0, 0
	for seed := range int64(10) {
		c, s, x := newChances(100+seed), books.New(), books.New()
		for range 200 {
			q := c.ledgerRequest(s)
			b := told(t, q)
			if b == "" {
				continue
			}
			p, again := do(s, q), do(x, read(t, b))
			if toldReply(t, p) != toldReply(t, again) || !sameReply(p, readReply(t, wire.Reply(p))) {
				t.Fatalf("%+v: %+v, not %+v", q, again, p)
			}
			results, accounts, transfers = results+len(p.Results), accounts+len(p.Accounts), transfers+len(p.Transfers)
		}
		if s.Stamp() != x.Stamp() || s.Clock() != x.Clock() {
			t.Fatalf("%d, %d, not %d, %d", x.Stamp(), x.Clock(), s.Stamp(), s.Clock())
		}
	}
	if results < 1000 || accounts < 300 || transfers < 300 {
		t.Errorf("%d results, %d accounts, %d transfers", results, accounts, transfers)
	}
}
