package store_test

import (
	"math"
	"strings"
	"testing"

	"bondstore/api"
	"bondstore/engine"
	"bondstore/store"
	"bondstore/wide"
)

func TestP24_1Example(t *testing.T) {
	s := newStore(t, 12)
	if got := s.Do(""); got != "\x04\x00\x00\x00" {
		t.Errorf("%x", got)
	}
}

// TestP24_1Sectors makes stores of as many sectors as there is a plan for, and of others.
func TestP24_1Sectors(t *testing.T) {
	for _, n := range []int{math.MinInt, -4096, -12, -1, 0, 1, 2, 5, 10, 11, 4097, 4098, 8192, 1 << 20, 1<<32 + 12, math.MaxInt} {
		if s, err := store.New(n); s != nil || err != api.ErrArg {
			t.Errorf("New(%d): %v, %d", n, s, err)
		}
	}
	for _, n := range []int{12, 13, 14, 15, 16, 17, 27, 100, 599, 600, 601, 4095, 4096} {
		b := newBoth(t, n)
		d := b.s.Disk()
		if d.Sectors() != n || d.Ops() != 0 || d.Later() != 0 || b.s.Turn() != 0 || b.s.Seq() != 0 || b.s.Sick() {
			t.Errorf("%d sectors, %d operations, turn %d, seq %d", d.Sectors(), d.Ops(), b.s.Turn(), b.s.Seq())
		}
		if got := strings.Join(sectorsOf(d), ""); got != strings.Repeat("\x00", 128*n) {
			t.Errorf("New(%d): %x", n, got)
		}
		b.mustAll(opens(someone(1, 0)), tick(n))
		turn := b.s.Turn()
		b.save(api.OK)
		b.powerAnyhow()
		if b.s.Turn() != turn+1 || n > 15 && turn != 0 || b.s.Seq() != 2 {
			t.Errorf("turn %d, seq %d", b.s.Turn(), b.s.Seq())
		}
	}
}

// TestP24_1Nil asks a nil store for all that there is.
func TestP24_1Nil(t *testing.T) {
	var s *store.Store
	for _, b := range []string{"", "no", bytesOf(tick(1)), bytesOf(find(1)), strings.Repeat("x", mostBytes+1)} {
		if got := s.Do(b); got != "\x02\x00\x00\x00" {
			t.Errorf("Do: %x", got)
		}
	}
	s.Arm(1)
	s.Arm(0)
	if s.Save() != api.ErrNil || s.Power(0, -1, 0) != api.ErrNil || s.Power(math.MaxUint64, 5, 5) != api.ErrNil {
		t.Error("no ErrNil")
	}
	if s.Books() != nil || s.Disk() != nil || s.Sick() || s.Turn() != 0 || s.Seq() != 0 {
		t.Error("something is told of none")
	}
}

// TestP24_1Long asks for bytes as long as there may be, and longer.
func TestP24_1Long(t *testing.T) {
	p := newPair(t, 30)
	p.do(bytesOf(opens(someone(1, 0))))
	for _, b := range []string{"", "\x03", bytesOf(tick(5)), bytesOf(find(1)), bytesOf(moves(pay(1, 1, 2, 3, 0)))} {
		for n, want := range map[int]api.Errno{mostBytes - 1: 4, mostBytes: 4, mostBytes + 1: 3, mostBytes + 2: 3, 2 * mostBytes: 3, 1<<16 + 5: 3} {
			for _, more := range []string{"\x00", "\x01", "\xff"} {
				if got := p.do(b + strings.Repeat(more, n-len(b))); got != refusal(want) {
					t.Errorf("%d bytes: %x, not %d", n, got, want)
				}
			}
		}
	}
	p.arm(1)
	if got := p.do(bytesOf(tick(5))); got != refusal(8) {
		t.Errorf("%x", got)
	}
	for n, want := range map[int]api.Errno{5: 4, mostBytes: 4, mostBytes + 1: 3} {
		if got := p.do(strings.Repeat("x", n)); got != refusal(want) {
			t.Errorf("%d bytes of a sick store: %x, not %d", n, got, want)
		}
	}
}

// TestP24_1Requests does requests of all kinds, by bytes that are written out, and holds the replies to such ones.
func TestP24_1Requests(t *testing.T) {
	zeroes := func(n int) string { return strings.Repeat("\x00", n) }
	name := func(n byte) string { return string([]byte{n}) + zeroes(15) }
	account := func(id, debited, credited, flags, stamp byte) string {
		return name(id) + name(0) + name(debited) + name(0) + name(credited) + "\x07\x00\x00\x00\x09\x00" + string([]byte{flags, 0, stamp}) + zeroes(7)
	}
	transfer := func(id, debit, credit, amount, stamp, born byte) string {
		return name(id) + name(debit) + name(credit) + name(amount) + name(0) + zeroes(4) + "\x07\x00\x00\x00\x03\x00\x00\x00" + string([]byte{stamp}) + zeroes(7) + string([]byte{born}) + zeroes(7)
	}
	filter := func(id byte, flags string, limit byte) string {
		return "\x06" + name(id) + zeroes(16) + flags + string([]byte{limit})
	}
	p := newPair(t, 40)
	for _, x := range [][2]string{
		{"\x01\x02" + account(1, 0, 0, 0, 0) + account(2, 0, 0, 4, 0), "\x00\x02\x00\x00\x00\x00"},
		{"\x01\x01" + account(1, 0, 0, 0, 0), "\x00\x01\x0a\x00\x00"},
		{"\x03\x05" + zeroes(7), "\x00\x00\x00\x00"},
		{"\x02\x03" + transfer(3, 2, 1, 6, 0, 0) + transfer(4, 1, 9, 6, 0, 0) + transfer(4, 1, 2, 5, 0, 0), "\x00\x03\x00\x14\x00\x00\x00"},
		{"\x04\x03" + name(2) + name(7) + name(1), "\x00\x00\x02" + account(2, 6, 5, 4, 2) + account(1, 5, 6, 0, 1) + "\x00"},
		{"\x04\x01" + name(7), "\x00\x00\x00\x00"},
		{"\x05\x02" + name(4) + name(4), "\x00\x00\x00\x02" + transfer(4, 1, 2, 5, 4, 5) + transfer(4, 1, 2, 5, 4, 5)},
		{filter(1, "\x01\x01\x00", 9), "\x00\x00\x00\x02" + transfer(3, 2, 1, 6, 3, 5) + transfer(4, 1, 2, 5, 4, 5)},
		{filter(1, "\x01\x01\x01", 1), "\x00\x00\x00\x01" + transfer(4, 1, 2, 5, 4, 5)},
		{filter(1, "\x00\x01\x00", 9), "\x00\x00\x00\x01" + transfer(3, 2, 1, 6, 3, 5)},
		{filter(1, "\x00\x00\x00", 9), "\x04\x00\x00\x00"},
		{filter(1, "\x01\x01\x00", 17), "\x04\x00\x00\x00"},
		{"\x03" + zeroes(5) + "\x01\x00\x00", "\x00\x00\x00\x00"},
		{"\x03\x01" + zeroes(4) + "\x01\x00\x00", "\x04\x00\x00\x00"},
		{"\x00", "\x04\x00\x00\x00"},
		{"\x07", "\x04\x00\x00\x00"},
		{"\x01\x00", "\x04\x00\x00\x00"},
	} {
		if got := p.do(x[0]); got != x[1] {
			t.Errorf("Do(%x): %x, not %x", x[0], got, x[1])
		}
	}
	if p.s.Seq() != 5 {
		t.Errorf("%d were done", p.s.Seq())
	}
}

// requests are such as change something, or ask, over a shop.
func requests() []api.Request {
	return append(everything(),
		opens(someone(20, 0)), opens(someone(21, linked), someone(22, credits)), moves(pay(30, 1, 3, 2, 0)), moves(wait(31, 1, 3, 2, 6, 0), end(32, 10, 3, post), end(33, 11, 0, void)), tick(8), tick(1<<40),
	)
}

// TestP24_1NoRequests asks for what is nearly a request: nothing is done, and nothing written.
func TestP24_1NoRequests(t *testing.T) {
	b := shop(t, 100)
	ops, seq := b.s.Disk().Ops(), b.s.Seq()
	none := func(s string) {
		t.Helper()
		if got := b.s.Do(s); got != refusal(4) {
			t.Fatalf("Do(%x): %x", s, got)
		}
	}
	for _, q := range requests() {
		s := bytesOf(q)
		for n := range len(s) {
			none(s[:n])
		}
		for _, more := range []string{"\x00", "\x01", "\xff", s} {
			none(s + more)
		}
		for op := 7; op < 256; op++ {
			none(string([]byte{byte(op)}) + s[1:])
		}
		none("\x00" + s[1:])
	}
	for _, q := range []api.Request{tick(-1), tick(1<<40 + 1), opens(), moves(), {Op: 4}, {Op: 5}, of(1, 0), of(1, 17), find(make([]uint64, 17)...), opens(make([]api.Account, 9)...), moves(make([]api.Transfer, 9)...)} {
		none(bytesOf(q))
	}
	for _, f := range []api.Filter{{Limit: 1}, {Debits: true, Limit: 1, From: -1}, {Credits: true, Limit: 1, To: -1}} {
		none(bytesOf(api.Request{Op: 6, Filter: f}))
	}
	b.asks()
	if b.s.Disk().Ops() != ops || b.s.Seq() != seq {
		t.Errorf("%d operations, %d done, not %d, %d", b.s.Disk().Ops(), b.s.Seq(), ops, seq)
	}
}

// TestP24_1NoRoom does requests over so few sectors that they don't fit.
func TestP24_1NoRoom(t *testing.T) {
	p := newPair(t, 12)
	eight := opens()
	for id := range uint64(8) {
		eight.Accounts = append(eight.Accounts, someone(50+id, 0))
	}
	if got := p.do(bytesOf(eight)); got != refusal(6) || p.s.Turn() != 1 {
		t.Fatalf("%x, turn %d", got, p.s.Turn())
	}
	for id := range uint64(5) {
		if got := p.do(bytesOf(opens(someone(1+id, 0)))); got != "\x00\x01\x00\x00\x00" {
			t.Fatalf("%x", got)
		}
	}
	// 5 accounts don't fit into a slot.
	if err := p.save(); err != api.ErrLong {
		t.Errorf("Save: %d", err)
	}
	for _, q := range []api.Request{opens(someone(6, 0)), tick(1), eight} {
		if got := p.do(bytesOf(q)); got != refusal(3) {
			t.Errorf("%x", got)
		}
	}
	if p.s.Sick() || p.s.Turn() != 5 || p.s.Seq() != 5 || p.power(0, -1, 0) != api.OK || len(p.s.Books().Accounts()) != 5 {
		t.Errorf("sick %v, turn %d, seq %d", p.s.Sick(), p.s.Turn(), p.s.Seq())
	}
}

// TestP24_1Sick lets the disk refuse at an operation, of a request or of saving.
func TestP24_1Sick(t *testing.T) {
	for _, saves := range []bool{false, true} {
		for op := 1; op < 5; op++ {
			p := newPair(t, 30)
			p.do(bytesOf(opens(someone(1, 0), someone(2, 0))))
			p.arm(op)
			if saves {
				if err := p.save(); err != api.ErrDisk {
					t.Fatalf("Save: %d", err)
				}
			} else if got := p.do(bytesOf(opens(someone(3, 0), someone(4, 0), someone(5, 0)))); got != refusal(8) {
				t.Fatalf("%x", got)
			}
			if !p.s.Sick() || p.save() != api.ErrSick || p.do(bytesOf(tick(1))) != refusal(9) || p.do(bytesOf(opens(someone(1, 0)))) != refusal(9) || p.do("\x03") != refusal(4) {
				t.Error("it isn't sick")
			}
			if got := p.do(bytesOf(find(1, 2, 3))); len(got) != 4+2*owner {
				t.Errorf("%x", got)
			}
			if p.s.Turn() != 0 || p.s.Seq() != 1 {
				t.Errorf("turn %d, seq %d", p.s.Turn(), p.s.Seq())
			}
			if p.power(0, -1, 0) != api.OK || p.s.Sick() || p.save() != api.OK || p.do(bytesOf(tick(1))) != refusal(0) || p.s.Seq() != 2 {
				t.Error("it is still sick")
			}
		}
	}
}

// TestP24_1Power lets the power go while a request is written: what persists is told by the mask, and by where a sector tears.
func TestP24_1Power(t *testing.T) {
	for _, c := range []struct {
		mask      uint64
		torn, cut int
		there     bool
	}{
		{0, -1, 0, false}, {3, -1, 0, true}, {1, -1, 0, false}, {2, -1, 0, false}, {math.MaxUint64, -1, 0, true}, {3, 2, 0, true}, {3, 0, 120, false}, {3, 0, 128, true},
		{3, 1, 50, false}, {1, 1, 128, true}, {0, 1, 500, false}, {0, 0, 500, false}, {2, 0, 500, true}, {2, 0, 0, false}, {2, 0, -5, false}, {3, math.MinInt, 5, true}, {3, math.MaxInt, 5, true},
	} {
		p := newPair(t, 30)
		p.do(bytesOf(opens(someone(1, 0))))
		p.arm(3)
		if got := p.do(bytesOf(opens(someone(3, 0)))); got != refusal(8) || p.s.Disk().Later() != 2 {
			t.Fatalf("%x, %d writes wait", got, p.s.Disk().Later())
		}
		if err := p.power(c.mask, c.torn, c.cut); err != api.OK {
			t.Fatalf("Power: %d", err)
		}
		if there := len(p.s.Books().Accounts()) == 2; there != c.there || (p.s.Seq() == 2) != c.there || p.s.Disk().Later() != 0 {
			t.Errorf("%+v: there %v, seq %d, %d writes wait", c, there, p.s.Seq(), p.s.Disk().Later())
		}
		if got := p.do(bytesOf(tick(3))); got != refusal(0) {
			t.Errorf("%x", got)
		}
	}
}

// TestP24_1Arm lets a later operation fail, counted from then on, whoever tries them.
func TestP24_1Arm(t *testing.T) {
	p := newPair(t, 30)
	for _, n := range []int{0, -1, math.MinInt} {
		p.arm(1)
		p.arm(n)
		if got := p.do(bytesOf(tick(1))); got != refusal(0) {
			t.Errorf("Arm(%d): %x", n, got)
		}
	}
	p.arm(4)
	if got := p.do(bytesOf(tick(2))); got != refusal(0) {
		t.Errorf("%x", got)
	}
	p.do(bytesOf(find(1)))
	p.do("no")
	p.write(29, "x")
	if got := p.do(bytesOf(tick(3))); got != refusal(8) || !p.s.Sick() {
		t.Errorf("%x", got)
	}
	p.arm(1)
	if p.power(0, -1, 0) != api.OK || p.do(bytesOf(tick(4))) != refusal(0) {
		t.Error("it refuses behind a crash")
	}
}

// TestP24_1PowerFails writes to the disk what makes its books none: opening is refused, and all is as it was ahead of that, but for the disk.
func TestP24_1PowerFails(t *testing.T) {
	for _, sick := range []bool{false, true} {
		p := newPair(t, 30)
		p.do(bytesOf(opens(someone(1, 0), someone(2, 0))))
		p.save()
		p.do(bytesOf(moves(pay(10, 1, 2, 3, 0))))
		if sick {
			p.arm(1)
			p.do(bytesOf(tick(4)))
		}
		replies := []string{p.do(bytesOf(find(1, 2))), p.do(bytesOf(of(1, 5)))}
		was, slot := sectorsOf(p.s.Disk()), 13
		p.write(slot, "nothing")
		p.s.Disk().Sync()
		p.w.d.Sync()
		p.write(20, "what isn't synced")
		if err := p.power(0, -1, 0); err != api.ErrForm {
			t.Fatalf("Power: %d", err)
		}
		if p.s.Disk().Later() != 0 || p.s.Turn() != 1 || p.s.Seq() != 2 || p.s.Sick() != sick {
			t.Errorf("turn %d, seq %d, sick %v", p.s.Turn(), p.s.Seq(), p.s.Sick())
		}
		for i, q := range []api.Request{find(1, 2), of(1, 5)} {
			if got := p.do(bytesOf(q)); got != replies[i] {
				t.Errorf("%x, not %x", got, replies[i])
			}
		}
		want := refusal(0)
		if sick {
			want = refusal(9)
		}
		if got := p.do(bytesOf(tick(6))); got != want {
			t.Errorf("%x, not %x", got, want)
		}
		p.write(slot, was[slot])
		if err := p.power(1, -1, 0); err != api.OK || p.s.Sick() {
			t.Errorf("Power: %d", err)
		}
	}
}

// TestP24_1DiskItself asks for the disk: it is one and the same always, and what others do to it counts.
func TestP24_1DiskItself(t *testing.T) {
	b := newBoth(t, 30)
	d := b.s.Disk()
	b.mustAll(tick(1))
	if d.Ops() != 2 {
		t.Errorf("%d operations", d.Ops())
	}
	b.save(0)
	b.powerAnyhow()
	if b.s.Disk() != d {
		t.Error("another disk")
	}
	d.Arm(1)
	b.refused(tick(2), 8)
	if b.s.Disk() != d {
		t.Error("another disk")
	}
}

// TestP24_1BooksAreNew changes books that were told: the store has its own.
func TestP24_1BooksAreNew(t *testing.T) {
	b := shop(t, 100)
	s := b.s.Books()
	if s == b.s.Books() {
		t.Error("the same books twice")
	}
	was := ledgerOf(s)
	for _, q := range []api.Request{tick(70), opens(someone(30, 0)), moves(pay(50, 1, 30, 4, 0)), moves(end(51, 10, 0, post))} {
		if p := engine.Do(s, q); p.Err != api.OK || p.Results != nil && p.Results[0] != 0 {
			t.Fatalf("%+v", p)
		}
		b.asks()
	}
	x := b.s.Books()
	b.mustAll(tick(8), opens(someone(9, 0)))
	if !ledgerOf(x).is(was) {
		t.Errorf("%+v, not %+v", ledgerOf(x), was)
	}
	accounts := b.s.Books().Accounts()
	accounts[0].Flags = closed
	b.asks()
}

// TestP24_1Apart has two stores, which know nothing of one another.
func TestP24_1Apart(t *testing.T) {
	a, b := shop(t, 100), newBoth(t, 100)
	b.mustAll(opens(someone(1, 0)))
	a.s.Arm(1)
	b.mustAll(tick(9))
	a.refused(tick(9), 8)
	b.save(0)
	a.power(math.MaxUint64, -1, 0)
	if a.s.Turn() != 0 || a.s.Seq() != 4 || b.s.Turn() != 1 || b.s.Seq() != 2 || a.s.Disk() == b.s.Disk() {
		t.Errorf("turns %d, %d, seqs %d, %d", a.s.Turn(), b.s.Turn(), a.s.Seq(), b.s.Seq())
	}
	b.asks()
}

// TestP24_1EveryOrder does all calls in chance orders, over disks of all sizes, beside the layers that the chapter names.
func TestP24_1EveryOrder(t *testing.T) {
	errs, powers, saves := map[api.Errno]int{}, map[api.Errno]int{}, map[api.Errno]int{}
	for seed := range int64(60) {
		c := newChances(5000+seed, 60)
		p := newPair(t, []int{12, 14, 17, 30, 60, 120, 600}[seed%7])
		for range 150 {
			switch n := c.Intn(40); {
			case n == 0:
				p.arm(c.Intn(30) - 2)
			case n < 3:
				saves[p.save()]++
			case n < 5 || n < 9 && p.s.Sick():
				powers[p.power(c.crash(p.s.Disk().Later()))]++
			case n == 39 && c.Intn(3) == 0:
				p.spoils(c)
			default:
				b := c.bytes(ledgerOf(p.s.Books()))
				errs[api.Errno(p.do(b)[0])]++
			}
		}
	}
	for _, err := range []api.Errno{0, 3, 4, 6, 8, 9} {
		if errs[err] < 20 {
			t.Errorf("just %d times %d: %v", errs[err], err, errs)
		}
	}
	if len(errs) != 6 || powers[0] < 100 || powers[4] < 5 || len(powers) != 2 || saves[0] < 20 || saves[3] < 5 || saves[8] < 3 || saves[9] < 5 || len(saves) != 4 {
		t.Errorf("%v, powers %v, saves %v", errs, powers, saves)
	}
}

// spoils lets a sector of both disks be another one, which lasts or not.
func (p *pair) spoils(c chances) {
	p.t.Helper()
	d := p.s.Disk()
	s, _ := d.Read(c.Intn(d.Sectors()))
	b := []byte(s)
	if c.Intn(2) == 0 {
		b[c.Intn(128)] ^= 1 << c.Intn(8)
	}
	// Numbers by the greatest one are left out: behind it there is none to write by.
	b[7], b[127] = b[7]&7, b[127]&7
	p.write(c.Intn(d.Sectors()), string(b))
	if c.Intn(2) == 0 {
		d.Sync()
		p.w.d.Sync()
	}
}

// TestP24_1Bounds has names and amounts at the edges of what bytes can tell.
func TestP24_1Bounds(t *testing.T) {
	b := newBoth(t, 60)
	great := api.Account{Id: api.Num{Hi: math.MaxUint64, Lo: math.MaxUint64 - 1}, Ledger: math.MaxUint32, Code: math.MaxUint16}
	other := api.Account{Id: api.Num{Hi: 1}, Ledger: math.MaxUint32, Code: 1}
	b.must(opens(great, other, someone(1, 8), someone(1, 1<<15), butA(great, func(a *api.Account) { a.Stamp = -1 })), 0, 0, 3, 3, 7)
	x := api.Transfer{Id: great.Id, Debit: great.Id, Credit: other.Id, Amount: wide.Most, Ledger: math.MaxUint32, Code: math.MaxUint16, Flags: pending, Timeout: 1 << 30}
	b.must(moves(x, butT(x, func(x *api.Transfer) { x.Timeout++ }), butT(x, func(x *api.Transfer) { x.Timeout = math.MaxUint32 }), butT(x, func(x *api.Transfer) { x.Flags |= 1 << 15 }), butT(x, func(x *api.Transfer) { x.Born = math.MinInt })), 0, 17, 17, 3, 7)
	b.mustAll(tick(1<<30 - 1))
	b.powerAnyhow()
	b.mustAll(tick(1 << 30))
	b.mustAll(tick(1 << 40))
	b.save(0)
	b.powerAnyhow()
	b.do(api.Request{Op: 4, Ids: []api.Num{great.Id, other.Id, wide.Most, {}}})
	b.do(api.Request{Op: 6, Filter: api.Filter{Account: great.Id, From: math.MaxInt, To: math.MaxInt, Debits: true, Limit: 16}})
	b.do(api.Request{Op: 6, Filter: api.Filter{Account: great.Id, To: math.MaxInt, Debits: true, Limit: 16}})
}
