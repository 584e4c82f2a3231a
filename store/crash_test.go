package store_test

import (
	"math"
	"testing"

	"bondstore/api"
)

// act is a request that may change something, or (of none) that the books are saved.
type act []api.Request

var save = act{}

func do(q api.Request) act { return act{q} }

// on does it over a store, and answers the error.
func (a act) on(b *both) api.Errno {
	if len(a) == 0 {
		return b.s.Save()
	}
	return api.Errno(b.s.Do(bytesOf(a[0]))[0])
}

// behind are the books at which it may leave a store, if it is refused.
func (a act) behind(l ledger) []ledger {
	if len(a) == 0 {
		return []ledger{l}
	}
	return []ledger{l, l.behind(a[0])}
}

// story are acts of all kinds, one behind the other.
func story() []act {
	return []act{
		do(opens(someone(1, 0), someone(2, 0))), save, do(moves(pay(10, 1, 2, 1, 0))), do(tick(3)), do(moves(wait(11, 1, 2, 7, 4, closeCredit))), save,
		do(opens(someone(3, linked), someone(3, 0))), do(opens(someone(3, 0))), do(tick(7)), do(moves(wait(12, 1, 2, 7, 4, 0), wait(13, 1, 3, 7, 2, 0))),
		do(moves(pay(14, 1, 2, 3, linked), end(15, 12, 3, post))), do(tick(9)), save, save, do(moves(end(16, 13, 0, void), pay(17, 3, 1, 5, 0))), do(tick(1 << 40)),
	}
}

// crash is what persists at one.
type crash struct {
	mask      uint64
	torn, cut int
}

// crashes are such of so many writes that wait: of few each set of them, and each of them torn at each of some places; of many some sets.
func crashes(n int) []crash {
	list := []crash{{0, -1, 0}, {math.MaxUint64, -1, 0}, {0x5555555555555555, -1, 0}, {math.MaxUint64 - 1, -1, 0}, {1 << 63, -1, 0}, {1<<63 - 1, -1, 0}}
	if n > 4 {
		return append(list, crash{math.MaxUint64, n - 1, 64}, crash{math.MaxUint64, 0, 119}, crash{math.MaxUint64, n / 2, 12}, crash{0, n - 1, 120})
	}
	for mask := range uint64(1) << n {
		list = append(list, crash{mask, -1, 0})
	}
	for torn := range n {
		for _, cut := range []int{0, 1, 8, 12, 20, 60, 116, 120, 121, 128} {
			list = append(list, crash{math.MaxUint64, torn, cut}, crash{1<<torn - 1, torn, cut})
		}
	}
	return list
}

// refusedAt is a store of such sectors, and such books, of which an act was refused at its n-th operation; false: it has no such operation.
func refusedAt(t *testing.T, sectors []string, l ledger, a act, op int) (*both, bool) {
	t.Helper()
	b := &both{t: t, s: copyOf(t, sectors), l: l.copy()}
	b.asks()
	b.s.Arm(op)
	err := a.on(b)
	if err != api.OK && err != api.ErrDisk {
		t.Fatalf("%+v: %d", a, err)
	}
	return b, err == api.ErrDisk
}

// crashesAt lets the power go at an act's n-th operation, in all ways, and goes on behind each; false: it has no such operation. It counts how often the act was there.
func crashesAt(t *testing.T, sectors []string, l ledger, a act, op int, n *counts) bool {
	t.Helper()
	b, is := refusedAt(t, sectors, l, a, op)
	if !is {
		return false
	}
	for i, c := range crashes(b.s.Disk().Later()) {
		b, _ := refusedAt(t, sectors, l, a, op)
		b.power(c.mask, c.torn, c.cut, a.behind(l)...)
		if b.l.seq == l.seq {
			n.not++
		} else {
			n.there++
		}
		right(t, told(b.s))
		if i%3 == 0 {
			b.do(tick(b.l.clock))
			b.do(moves(pay(900, 1, 2, 3, 0)))
			b.do(of(1, 9))
			b.powerAnyhow()
		}
	}
	return true
}

// TestP24_2P2Crashes lets the power go at each operation of each act of a story.
func TestP24_2P2Crashes(t *testing.T) {
	b, n := newBoth(t, 600), newCounts()
	for _, a := range story() {
		sectors, l := sectorsOf(b.s.Disk()), b.l.copy()
		for op := 1; crashesAt(t, sectors, l, a, op, n); op++ {
		}
		if len(a) > 0 {
			b.do(a[0])
		} else {
			b.save(0)
		}
	}
	if n.there < 80 || n.not < 1500 {
		t.Errorf("%d times there, %d times not", n.there, n.not)
	}
}

// TestP24_2P2CrashesOfFull does so while full books are saved for a request, since the journal is full.
func TestP24_2P2CrashesOfFull(t *testing.T) {
	b, n := full(t, 600), newCounts()
	turn := b.s.Turn()
	b.save(0)
	for range 120 {
		b.mustAll(tick(b.l.clock + 1))
	}
	if b.s.Turn() != turn+1 {
		t.Fatalf("turn %d", b.s.Turn())
	}
	// The slot takes 231 sectors; then it is synced, then come the head and the record, each of which is synced, too.
	sectors, a, all := sectorsOf(b.s.Disk()), do(tick(b.l.clock+9)), 231+1+2+2
	for _, op := range []int{1, 2, 3, 5, 60, 64, 65, 66, 150, 230, 231, 232, 233, 234, 235, 236} {
		if !crashesAt(t, sectors, b.l, a, op, n) {
			t.Errorf("there is no operation %d", op)
		}
	}
	ops := b.s.Disk().Ops()
	b.mustAll(a[0])
	if got := b.s.Disk().Ops() - ops; got != all || b.s.Turn() != turn+2 || n.there < 3 || n.not < 100 {
		t.Errorf("%d operations, turn %d, %d times there, %d times not", got, b.s.Turn(), n.there, n.not)
	}
}

// TestP24_2P2ByChance does any bytes in chance orders over a disk that refuses now and then, with crashes, at which anything may persist.
func TestP24_2P2ByChance(t *testing.T) {
	n := newCounts()
	for seed := range int64(60) {
		c := newChances(7000+seed, []int{30, 100, 4000}[seed%3])
		b := shop(t, wholes[seed%5])
		for range 60 {
			switch c.Intn(6) {
			case 0:
				b.refuses(c, n)
			case 1:
				b.power(c.crash(0))
			case 2:
				if c.Intn(3) == 0 {
					b.save(0)
				}
			default:
				b.step(c, n)
			}
		}
	}
	if n.errs[8] < 300 || n.there < 50 || n.not < 100 || n.again < 50 || n.asks < 500 {
		t.Errorf("%+v", n)
	}
}

// refuses lets the disk refuse at some operation of an act; then nothing more is written, and what asks is answered as ahead of that; and the power goes.
func (b *both) refuses(c chances, n *counts) {
	b.t.Helper()
	q := c.writes(b.l)
	a, op := do(q), 1+c.Intn(5)
	switch c.Intn(6) {
	case 0:
		a, op = save, 1+c.Intn(40)
	case 1, 2, 3:
		// The sync behind all sectors of the record.
		op = (12+len(bytesOf(q))+103)/104 + 1
	}
	may := a.behind(b.l)
	b.s.Arm(op)
	err := a.on(b)
	n.errs[err]++
	if err == api.OK {
		b.s.Arm(0)
		b.l = may[len(may)-1]
		b.asks()
		return
	}
	if err != api.ErrDisk {
		b.t.Fatalf("%+v: %d", a, err)
	}
	b.sick(c, n)
	seq := b.l.seq
	mask, torn, cut := c.crash(b.s.Disk().Later())
	b.power(mask, torn, cut, may...)
	if b.l.seq == seq {
		n.not++
	} else {
		n.there++
	}
	right(b.t, told(b.s))
}

// sick asks a store whose disk has refused: nothing more is written, all that may change something is refused, and what asks is answered as ahead of that.
func (b *both) sick(c chances, n *counts) {
	b.t.Helper()
	d, turn, seq := b.s.Disk(), b.s.Turn(), b.s.Seq()
	ops, later := d.Ops(), d.Later()
	for range 4 {
		q := c.request(b.l)
		_, is := parse(bytesOf(q))
		if is && q.Op < 4 {
			b.refused(q, api.ErrSick)
		} else {
			b.do(q)
			n.asks++
		}
		b.save(api.ErrSick)
	}
	for _, q := range everything() {
		b.do(q)
	}
	if d.Ops() != ops || d.Later() != later || !b.s.Sick() || b.s.Turn() != turn || b.s.Seq() != seq {
		b.t.Fatalf("%d operations, %d writes wait, not %d, %d", d.Ops(), d.Later(), ops, later)
	}
}

// TestP24_2P6Refusals lets the disk refuse at each operation of acts.
func TestP24_2P6Refusals(t *testing.T) {
	base := shop(t, 600)
	sectors := sectorsOf(base.s.Disk())
	for _, a := range []act{do(opens(someone(30, 0))), do(moves(pay(30, 1, 2, 5, 0), end(31, 10, 4, post), pay(32, 1, 2, 5, linked), pay(33, 1, 2, 5, 0))), do(tick(50)), save} {
		ops := 1
		for ; ; ops++ {
			b, is := refusedAt(t, sectors, base.l, a, ops)
			if !is {
				break
			}
			b.sick(newChances(int64(ops), 40), newCounts())
			// A disk that refuses no more doesn't make it well; the power does.
			b.s.Disk().Sync()
			b.refused(tick(8), api.ErrSick)
			b.save(api.ErrSick)
			b.power(0, -1, 0, a.behind(base.l)...)
			b.do(tick(9))
		}
		if ops < 3 {
			t.Errorf("%+v has %d operations", a, ops-1)
		}
	}
}
