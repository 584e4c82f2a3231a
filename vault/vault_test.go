package vault_test

import (
	"hash/crc32"
	"math"
	"strings"
	"testing"

	"bondstore/api"
	"bondstore/books"
	"bondstore/engine"
	"bondstore/platter"
	"bondstore/still"
	"bondstore/vault"
	"bondstore/wide"
	"bondstore/wire"
)

// two makes two accounts, and one is a transfer of 1 between them: their records take 2 sectors each. A tick's takes 1.
func two() api.Request { return opens(someone(1, 0), someone(2, 0)) }

func one(id uint64) api.Request { return moves(pay(id, 1, 2, 1, 0)) }

// bytesOf are a request's.
func bytesOf(t *testing.T, q api.Request) string {
	t.Helper()
	b, err := wire.Bytes(q)
	if err != api.OK {
		t.Fatalf("%+v: %d", q, err)
	}
	return b
}

// stateOf are the bytes of the books behind requests.
func stateOf(t *testing.T, list ...api.Request) string {
	t.Helper()
	b := newBoth(t, 600)
	b.must(list...)
	return told(b.v)
}

func TestP23_1Example(t *testing.T) {
	b := newBoth(t, 12)
	s := b.v.Books()
	if s == nil || len(s.Accounts()) != 0 || len(s.Keeps()) != 0 || s.Clock() != 0 || s.Stamp() != 0 {
		t.Errorf("%+v", s)
	}
	if b.v.Turn() != 0 || b.v.Seq() != 0 || b.v.Sick() || b.d.Ops() != 0 {
		t.Error("of blank sectors something is told, or written")
	}
}

// TestP23_1OpenOfSectors opens disks of so many sectors that there is a plan, and others.
func TestP23_1OpenOfSectors(t *testing.T) {
	notOpened(t, nil, api.ErrNil)
	for n := range 12 {
		d := platter.New(n)
		notOpened(t, d, api.ErrArg)
		for i := range min(n, 2) {
			put(t, d, i, leafOf(1, 0, headOf(4+i, 9, 21, 5)))
			notOpened(t, d, api.ErrArg)
		}
	}
	for n := 12; n < 50; n++ {
		b := newBoth(t, n)
		b.must(tick(n))
		b.save(0)
		b.must(tick(n + 1))
		b.again().must(tick(n + 2))
	}
	for _, n := range []int{600, 601, 4095, 4096} {
		b := newBoth(t, n)
		b.must(two())
		b.save(0)
		b.again()
	}
}

// TestP23_1SectorsByHand holds records, slots and heads to bytes that are written out.
func TestP23_1SectorsByHand(t *testing.T) {
	b := newBoth(t, 27)
	sector := func(n byte, data string) string {
		s := string([]byte{n, 0, 0, 0, 0, 0, 0, 0, 0, 0, byte(len(data)), 0}) + data + strings.Repeat("\x00", 104-len(data))
		sum := crc32.Checksum([]byte(s), castagnoli)
		return s + string([]byte{byte(sum), byte(sum >> 8), byte(sum >> 16), byte(sum >> 24), n, 0, 0, 0, 0, 0, 0, 0})
	}
	zeroes := func(n int) string { return strings.Repeat("\x00", n) }
	record := func(seq, now byte) string {
		return string([]byte{seq}) + zeroes(7) + "\x09" + zeroes(3) + "\x03" + string([]byte{now}) + zeroes(7)
	}
	state := func(now byte) string { return "\x01" + string([]byte{now}) + zeroes(7+8+4) }
	head := func(turn, number, seq byte) string {
		return string([]byte{turn}) + zeroes(7) + string([]byte{number}) + zeroes(7) + "\x15" + zeroes(7) + string([]byte{seq}) + zeroes(7)
	}
	want := make([]string, 27)
	for i := range want {
		want[i] = zeroes(128)
	}
	is := func(ops int) {
		t.Helper()
		for i, s := range stands(b.d) {
			if s != want[i] {
				t.Fatalf("sector %d: %x, not %x", i, s, want[i])
			}
		}
		if b.d.Ops() != ops || b.d.Later() != 0 {
			t.Fatalf("%d operations, %d writes wait", b.d.Ops(), b.d.Later())
		}
	}
	b.v.Do(tick(5))
	want[22] = sector(1, record(1, 5))
	is(2)
	b.v.Do(tick(6))
	want[23] = sector(2, record(2, 6))
	is(4)
	b.v.Save()
	want[12], want[1] = sector(3, state(6)), sector(4, head(1, 3, 2))
	is(8)
	b.v.Do(tick(7))
	want[22] = sector(5, record(3, 7))
	is(10)
	b.v.Save()
	want[2], want[0] = sector(6, state(7)), sector(7, head(2, 6, 3))
	is(14)
	b.v.Save()
	want[12], want[1] = sector(8, state(7)), sector(9, head(3, 8, 3))
	is(18)
	if b.v.Turn() != 3 || b.v.Seq() != 3 || b.v.Books().Clock() != 7 {
		t.Errorf("turn %d, seq %d", b.v.Turn(), b.v.Seq())
	}
}

// TestP23_1OpenOfHandMade opens disks that others wrote: with a head or none, with records or none.
func TestP23_1OpenOfHandMade(t *testing.T) {
	s := stateOf(t, two(), one(10), tick(9))
	records := []string{bytesOf(t, one(11)), bytesOf(t, one(10)), bytesOf(t, tick(20)), bytesOf(t, moves(wait(12, 1, 2, 5, 3)))}
	for _, turn := range []int{0, 1, 2, 3, 255, 256, 1 << 40, most - 1, most} {
		for _, seq := range []int{0, 1, 3, 256, 1 << 33, most - 4} {
			for many := range len(records) + 1 {
				d := platter.New(60)
				if turn > 0 {
					put(t, d, slotAt(60, turn), partsOf(77, s)...)
					put(t, d, turn%2, leafOf(5, 0, headOf(turn, 77, len(s), seq)))
				} else {
					seq = 0
				}
				at := journalAt(60)
				for i, r := range records[:many] {
					parts := partsOf(100-i, recordOf(seq+1+i, r))
					put(t, d, at, parts...)
					at += len(parts)
				}
				d.Sync()
				b := opened(t, d)
				if b.v.Turn() != turn || b.v.Seq() != seq+many {
					t.Fatalf("turn %d, seq %d; not %d, %d", b.v.Turn(), b.v.Seq(), turn, seq+many)
				}
				clock := 0
				if turn > 0 {
					clock = 9
				}
				if many > 2 {
					clock = 20
				}
				if got := b.v.Books().Clock(); got != clock {
					t.Fatalf("the clock is %d, not %d", got, clock)
				}
				if seq+many < most {
					b.must(tick(30))
					b.behindCrash()
				}
			}
		}
	}
}

// TestP23_1OpenOfTwoHeads opens disks of two heads: of the greater turn it is, in whatever order they were written.
func TestP23_1OpenOfTwoHeads(t *testing.T) {
	for _, turns := range [][2]int{{2, 1}, {2, 3}, {4, 1}, {0, 1}, {2, 0}, {most, most - 1}, {256, 255}, {1 << 40, 1<<40 + 1}} {
		for _, numbers := range [][2]int{{5, 6}, {6, 5}, {5, 5}} {
			d := platter.New(20)
			newest := max(turns[0], turns[1])
			for i, turn := range turns {
				if turn > 0 {
					s := still.Bytes(loaded(t, turn%1000))
					put(t, d, slotAt(20, turn), partsOf(numbers[i]+10, s)...)
					put(t, d, i, leafOf(numbers[i], 0, headOf(turn, numbers[i]+10, len(s), 40+i)))
				}
			}
			d.Sync()
			b := opened(t, d)
			if b.v.Turn() != newest || b.v.Seq() != 40+newest%2 || b.v.Books().Clock() != newest%1000 {
				t.Fatalf("%v: turn %d, seq %d, at %d", turns, b.v.Turn(), b.v.Seq(), b.v.Books().Clock())
			}
		}
	}
}

// loaded are books without anything at a time.
func loaded(t *testing.T, clock int) *books.State {
	t.Helper()
	s, err := books.Load(nil, nil, clock, 0)
	if err != api.OK {
		t.Fatal(err)
	}
	return s
}

// saved is a disk of 27 sectors with a head of the turn 2, and one of 1 ahead of it, and two records behind the newest one.
func saved(t *testing.T) *platter.Disk {
	t.Helper()
	b := newBoth(t, 27)
	b.must(two())
	b.save(0)
	b.must(one(10))
	b.save(0)
	b.must(one(11), tick(8))
	return b.d
}

// TestP23_1OpenWithoutState opens disks of whose newest head the state isn't there: an older one doesn't do instead.
func TestP23_1OpenWithoutState(t *testing.T) {
	base := stands(saved(t))
	s := stateOf(t, two(), one(10))
	parts := len(partsOf(1, s))
	n := number(base[2])
	opened(t, diskOf(t, base))
	for i := range parts {
		for bit := range 8 * 128 {
			d := diskOf(t, base)
			b := []byte(base[2+i])
			b[bit/8] ^= 1 << (bit % 8)
			put(t, d, 2+i, string(b))
			notOpened(t, d, api.ErrForm)
		}
		for _, other := range []string{"", base[2+(i+1)%parts], base[12+i], base[2+i][:120], leafOf(n, i, ""), leafOf(n+1, i, s[104*i:min(len(s), 104*i+104)])} {
			d := diskOf(t, base)
			put(t, d, 2+i, other)
			notOpened(t, d, api.ErrForm)
		}
	}
	// What isn't the newest head's, nor behind it, doesn't matter.
	for i := range base {
		if i == 0 || i >= 2 && i < 2+parts || i >= 22 {
			continue
		}
		d := diskOf(t, base)
		put(t, d, i, strings.Repeat("\xff", 128))
		if b := opened(t, d); b.v.Turn() != 2 || b.v.Seq() != 4 || b.v.Books().Clock() != 8 {
			t.Errorf("sector %d: turn %d, seq %d", i, b.v.Turn(), b.v.Seq())
		}
	}
}

// TestP23_1OpenOfHeads opens disks of which the newest head tells otherwise, or isn't there.
func TestP23_1OpenOfHeads(t *testing.T) {
	base := stands(saved(t))
	s := stateOf(t, two(), one(10))
	n := number(base[2])
	with := func(head string) *platter.Disk {
		d := diskOf(t, base)
		put(t, d, 0, head)
		return d
	}
	for _, head := range []string{
		headOf(2, n-1, len(s), 2), headOf(2, n+1, len(s), 2), headOf(2, most, len(s), 2), headOf(2, n, len(s)-1, 2), headOf(2, n, len(s)+1, 2), headOf(2, n, 0, 2), headOf(2, n, 104, 2), headOf(2, n, 312, 2), headOf(2, n, 104*4096, 2), headOf(4, n, len(s)+1, 2),
	} {
		notOpened(t, with(leafOf(50, 0, head)), api.ErrForm)
	}
	// The state is there, and other records are behind it, or none.
	for seq, many := range map[int]int{0: 0, 1: 0, 2: 2, 3: 0, 4: 0, most: 0} {
		for _, turn := range []int{2, 4, most} {
			b := opened(t, with(leafOf(50, 0, headOf(turn, n, len(s), seq))))
			if b.v.Turn() != turn || b.v.Seq() != seq+many || b.v.Books().Clock() != 4*many {
				t.Errorf("behind %d: turn %d, seq %d", seq, b.v.Turn(), b.v.Seq())
			}
		}
	}
	// No head: the one ahead of it is the newest one, whose record, of the seq 2, isn't there any more.
	for _, head := range []string{
		"", strings.Repeat("\xff", 128), base[0][:120], base[0][:64], base[1], leafOf(50, 1, headOf(2, n, len(s), 2)), leafOf(50, 0, headOf(3, n, len(s), 2)), leafOf(50, 0, headOf(0, n, len(s), 2)),
		leafOf(50, 0, headOf(2, 0, len(s), 2)), leafOf(50, 0, headOf(2, n, -1, 2)), leafOf(50, 0, headOf(2, n, len(s), -1)), leafOf(50, 0, headOf(2, n, len(s), most+1)), leafOf(50, 0, headOf(most+2, n, len(s), 2)), leafOf(50, 0, headOf(2, n, len(s), 2)+"\x00"),
	} {
		b := opened(t, with(head))
		if b.v.Turn() != 1 || b.v.Seq() != 1 || len(b.v.Books().Keeps()) != 0 {
			t.Errorf("%x: turn %d, seq %d", head, b.v.Turn(), b.v.Seq())
		}
	}
}

// TestP23_1OpenOfStates opens disks of whose newest head the bytes are there, but are a state's or not.
func TestP23_1OpenOfStates(t *testing.T) {
	s := stateOf(t, two())
	for b, is := range map[string]bool{
		"": false, "\x01": false, s: true, s + "\x00": false, s[1:]: false, s[:len(s)-1]: false, "\x00" + s[1:]: false, "\x02" + s[1:]: false,
		s[:21] + s[21:117] + s[21:117]: false, s[:17] + "\x01\x00\x00\x00" + s[21:117]: true, s[:17] + "\x00\x00\x00\x00": true,
		s[:8] + "\x01" + s[9:]: false, strings.Repeat("\x00", 21): false, strings.Repeat("\x01", 400): false,
	} {
		for turn := 1; turn < 3; turn++ {
			d := platter.New(22)
			put(t, d, slotAt(22, turn), partsOf(9, b)...)
			put(t, d, turn%2, leafOf(10, 0, headOf(turn, 9, len(b), 5)))
			if is {
				if got := told(opened(t, d).v); got != b {
					t.Errorf("%x, not %x", got, b)
				}
			} else {
				notOpened(t, d, api.ErrForm)
			}
		}
	}
}

// TestP23_1OpenOfRecords opens disks with a record that is a request that may change something, or isn't.
func TestP23_1OpenOfRecords(t *testing.T) {
	b := bytesOf(t, one(10))
	many := "\x01\x09" + strings.Repeat(bytesOf(t, opens(someone(1, 0)))[2:], 9)
	for r, is := range map[string]bool{
		"": false, "\x00": false, "x": false, b: true, b + "\x00": false, b[:len(b)-1]: false, "\x03": false, "\x02\x00": false, "\x01\x00": false, many: false,
		"\x03" + little(8, 0): true, "\x03" + little(8, 1<<40): true, "\x03" + little(8, 1<<40+1): false, "\x03" + little(8, -1): false, "\x07" + little(8, 1): false, strings.Repeat("\x00", 500): false,
		// Those that ask are done by another layer.
		bytesOf(t, find(1)): false, bytesOf(t, moved(1)): false, bytesOf(t, of(1, 1)): false,
		// What is wrong with its items is told by results.
		bytesOf(t, one(0)): true, bytesOf(t, opens(api.Account{})): true, bytesOf(t, moves(pay(1, 7, 8, 0, linked), pay(2, 7, 8, 0, linked))): true,
	} {
		for place := range 3 {
			d := platter.New(60)
			at := journalAt(60)
			for i := range 3 {
				record := bytesOf(t, tick(2))
				if i == place {
					record = r
				}
				parts := partsOf(i+1, recordOf(i+1, record))
				put(t, d, at, parts...)
				at += len(parts)
			}
			if is {
				if seq := opened(t, d).v.Seq(); seq != 3 {
					t.Errorf("%x: seq %d", r, seq)
				}
			} else {
				notOpened(t, d, api.ErrForm)
			}
			// Torn it isn't there at all, nor what is behind it.
			put(t, d, journalAt(60)+place, "")
			if seq := opened(t, d).v.Seq(); seq != place {
				t.Errorf("%x: seq %d, not %d", r, seq, place)
			}
		}
	}
}

// TestP23_1OpenWritesNothing opens disks that would refuse, and on which something isn't synced.
func TestP23_1OpenWritesNothing(t *testing.T) {
	d := saved(t)
	was := stands(d)
	d.Arm(1)
	for range 3 {
		opened(t, d)
	}
	if d.Sync() != api.ErrDisk {
		t.Error("it isn't refused any more")
	}
	put(t, d, 11, "it waits")
	opened(t, d)
	if d.Later() != 1 {
		t.Errorf("%d writes wait", d.Later())
	}
	d.Crash(0, -1, 0)
	for i, s := range stands(d) {
		if s != was[i] {
			t.Errorf("sector %d", i)
		}
	}
}

// TestP23_1Nil asks no vault.
func TestP23_1Nil(t *testing.T) {
	var v *vault.Vault
	for _, q := range append(everything(), two(), one(10), tick(1), opens(), tick(-1)) {
		if p := v.Do(q); !sameReply(p, api.Reply{Err: api.ErrNil}) {
			t.Errorf("Do(%+v): %+v", q, p)
		}
	}
	if err := v.Save(); err != api.ErrNil {
		t.Errorf("Save: %d", err)
	}
	if v.Books() != nil || v.Turn() != 0 || v.Seq() != 0 || v.Sick() {
		t.Error("something is told")
	}
}

// badRequests may change something, by their Op, and have no bytes.
func badRequests() []api.Request {
	nine := make([]api.Account, 9)
	list := []api.Request{opens(), moves(), opens(nine...), moves(make([]api.Transfer, 9)...), {Op: 1, Transfers: one(5).Transfers, Now: 3}, {Op: 2, Accounts: two().Accounts}}
	for _, now := range []int{-1, 1<<40 + 1, math.MaxInt, math.MinInt} {
		list = append(list, tick(now))
	}
	for _, n := range []int{-1, 1 << 32, math.MinInt, math.MaxInt} {
		a, b, c := someone(7, 0), someone(8, 0), someone(9, 0)
		a.Ledger, b.Code, c.Flags = n, n, n
		x, y, z, timed := pay(70, 1, 2, 1, 0), pay(71, 1, 2, 1, 0), pay(72, 1, 2, 1, 0), wait(73, 1, 2, 1, n)
		x.Ledger, y.Code, z.Flags = n, n, n
		list = append(list, opens(a), opens(someone(6, 0), b), opens(c, someone(6, 0)), moves(x), moves(pay(60, 1, 2, 1, 0), y), moves(z), moves(timed, pay(60, 1, 2, 1, 0)))
	}
	big := someone(7, 0)
	big.Code = 1 << 16
	return append(list, opens(big))
}

// TestP23_1DoOfNoBytes does requests that have none: nothing is written, whether there is room or not, and whether the disk would refuse.
func TestP23_1DoOfNoBytes(t *testing.T) {
	b := newBoth(t, 27)
	b.must(two())
	for _, q := range badRequests() {
		b.refused(q, api.ErrArg)
	}
	b.must(one(10))
	b.arm(1)
	// Of the journal's 5 sectors none is left.
	for _, q := range badRequests() {
		b.refused(q, api.ErrArg)
	}
	b.refused(tick(5), api.ErrDisk)
	for _, q := range badRequests() {
		b.refused(q, api.ErrArg)
	}
	b.refused(tick(5), api.ErrSick)
}

// TestP23_1DoTakesJustWhatOpNames does requests with more in them.
func TestP23_1DoTakesJustWhatOpNames(t *testing.T) {
	b := newBoth(t, 60)
	more := func(q api.Request) api.Request {
		x := api.Request{Op: q.Op, Accounts: make([]api.Account, 20), Transfers: []api.Transfer{{Code: -1}}, Now: -1, Ids: make([]api.Num, 40), Filter: api.Filter{From: -1}}
		switch q.Op {
		case 1:
			x.Accounts = q.Accounts
		case 2:
			x.Transfers = q.Transfers
		case 3:
			x.Now = q.Now
		case 4, 5:
			x.Ids = q.Ids
		}
		return x
	}
	b.must(more(two()), more(one(10)), more(tick(4)))
	if p := b.do(more(find(1))); len(p.Accounts) != 1 {
		t.Errorf("%+v", p)
	}
	if p := b.do(more(moved(10, 10))); len(p.Transfers) != 2 {
		t.Errorf("%+v", p)
	}
	b.behindCrash()
}

// TestP23_1DoAsks asks for what there is: nothing is written, nor counted.
func TestP23_1DoAsks(t *testing.T) {
	b := newBoth(t, 60)
	for range 2 {
		for _, q := range everything() {
			b.do(q)
		}
		if b.v.Seq() == 0 {
			b.must(two(), moves(pay(10, 1, 2, 5, 0), wait(11, 2, 1, 3, 9), end(12, 11, 2, post)), tick(3))
		}
	}
	ops, seq := b.d.Ops(), b.v.Seq()
	b.arm(1)
	if p := b.do(find(2, 9, 1)); p.Err != 0 || len(p.Accounts) != 2 || p.Accounts[0].CreditsPosted != wide.Of(5) || p.Accounts[1].CreditsPosted != wide.Of(2) || len(p.Results)+len(p.Transfers) != 0 {
		t.Errorf("%+v", p)
	}
	if p := b.do(of(1, 2)); p.Err != 0 || len(p.Transfers) != 2 || p.Transfers[1].Id != wide.Of(11) {
		t.Errorf("%+v", p)
	}
	if p := b.do(moved(99)); p.Err != 0 || len(p.Transfers) != 0 {
		t.Errorf("%+v", p)
	}
	for _, q := range []api.Request{find(), moved(), find(make([]uint64, 17)...), of(1, 0), of(1, 17), {}, {Op: 7}, {Op: -1}, {Op: math.MinInt, Now: 5}} {
		if p := b.do(q); !sameReply(p, api.Reply{Err: api.ErrArg}) {
			t.Errorf("Do(%+v): %+v", q, p)
		}
	}
	if b.d.Ops() != ops || b.v.Seq() != seq {
		t.Error("something was written")
	}
}

// TestP23_1DoResults does requests of which items fail: they are records, too.
func TestP23_1DoResults(t *testing.T) {
	b := newBoth(t, 100)
	b.must(two())
	for i, c := range []struct {
		q    api.Request
		want []api.Result
	}{
		{two(), []api.Result{10, 10}},
		{opens(someone(0, 0), someone(3, 0), someone(1, debits)), []api.Result{4, 0, 11}},
		{moves(pay(10, 1, 2, 5, linked), pay(11, 1, 9, 5, 0)), []api.Result{1, 20}},
		{moves(pay(10, 1, 2, 5, linked)), []api.Result{2}},
		{moves(pay(10, 1, 2, 5, 0), pay(10, 1, 2, 5, 0), end(12, 10, 0, post)), []api.Result{0, 10, 24}},
		{tick(5), nil}, {tick(4), nil},
	} {
		if p := b.do(c.q); !sameReply(p, api.Reply{Results: c.want}) {
			t.Errorf("Do(%+v): %+v", c.q, p)
		}
		if b.v.Seq() != i+2 {
			t.Errorf("seq %d", b.v.Seq())
		}
		b.again()
	}
}

// TestP23_1DoSaves fills journals: just where there is no room the books are saved ahead.
func TestP23_1DoSaves(t *testing.T) {
	for sectors := 22; sectors < 42; sectors++ {
		b := newBoth(t, sectors)
		room := sectors - journalAt(sectors)
		now := 0
		for turn := range 5 {
			for range room {
				now++
				b.must(tick(now))
				if b.v.Turn() != turn {
					t.Fatalf("of %d sectors, at %d: turn %d", sectors, now, b.v.Turn())
				}
			}
		}
		// One that takes two sectors has no room in one.
		b.save(0)
		for i := range room - 1 {
			b.must(tick(now + i))
		}
		turn := b.v.Turn()
		b.must(opens(someone(1, 0)))
		if b.v.Turn() != turn+1 || b.v.Seq() != now+room {
			t.Fatalf("of %d sectors: turn %d, seq %d", sectors, b.v.Turn(), b.v.Seq())
		}
		b.behindCrash()
	}
}

// TestP23_1DoFull does requests that have no room in a journal that is saved, either: these are saved, no more.
func TestP23_1DoFull(t *testing.T) {
	b := newBoth(t, 12)
	three := opens(someone(1, 0), someone(2, 0), someone(3, 0))
	for turn := range 4 {
		b.refused(three, api.ErrFull)
		if b.v.Turn() != turn+1 || b.v.Seq() != 0 {
			t.Fatalf("turn %d, seq %d", b.v.Turn(), b.v.Seq())
		}
	}
	b.must(tick(9))
	b.refused(three, api.ErrFull)
	b.must(opens(someone(1, 0)))
	// Two sectors there are, of which one is taken: there is room for 196 bytes behind a save alone.
	b.must(tick(10))
	b.must(opens(someone(2, 0)))
	turn := b.v.Turn()
	b.refused(moves(pay(10, 1, 2, 1, 0), pay(11, 1, 2, 1, 0)), api.ErrFull)
	if b.v.Turn() != turn+1 || b.v.Seq() != 4 || b.v.Sick() {
		t.Errorf("turn %d, seq %d", b.v.Turn(), b.v.Seq())
	}
	b.behindCrash().must(tick(11))
	// Where the saving is refused that is told.
	for op := 1; op <= 4; op++ {
		b := newBoth(t, 12)
		b.arm(op)
		b.refused(three, api.ErrDisk)
		if !b.v.Sick() || b.v.Turn() != 0 {
			t.Errorf("operation %d refused: turn %d", op, b.v.Turn())
		}
	}
}

// TestP23_1DoLong does requests where the books can't be saved: nothing is written, and what has room still is done.
func TestP23_1DoLong(t *testing.T) {
	// A slot of 27 sectors has 1040 bytes, so that 10 accounts are 981, and 11 are 1077.
	b := newBoth(t, 27)
	for id := uint64(1); id <= 10; id++ {
		b.must(opens(someone(id, 0)))
	}
	b.save(0)
	b.must(opens(someone(11, 0)), opens(someone(12, 0)))
	ops := b.d.Ops()
	b.refused(opens(someone(13, 0)), api.ErrLong)
	b.save(api.ErrLong)
	b.refused(moves(pay(20, 1, 2, 1, 0)), api.ErrLong)
	if b.d.Ops() != ops || b.v.Sick() {
		t.Error("something was written")
	}
	b.arm(1)
	b.refused(opens(someone(13, 0)), api.ErrLong)
	b.save(api.ErrLong)
	b.arm(0)
	b.must(tick(4))
	b.refused(tick(5), api.ErrLong)
	for _, q := range everything() {
		b.do(q)
	}
	again := b.behindCrash()
	again.refused(tick(5), api.ErrLong)
	if again.v.Seq() != 13 || again.v.Turn() != b.v.Turn() {
		t.Errorf("seq %d, turn %d", again.v.Seq(), again.v.Turn())
	}
}

// TestP23_1DoDisk does requests at each of whose operations the disk refuses: with room, and without.
func TestP23_1DoDisk(t *testing.T) {
	four := opens(someone(3, 0), someone(4, 0), someone(5, 0), someone(6, 0))
	// A journal of 7 sectors; books that take 3.
	const saving = 3 + 1 + 1 + 1
	for _, c := range []struct {
		q     api.Request
		ticks int // that are ahead of it in the journal
		saves bool
		ops   int
	}{
		{tick(40), 0, false, 2}, {tick(40), 6, false, 2}, {tick(40), 7, true, saving + 2}, {one(10), 0, false, 3}, {one(10), 5, false, 3}, {one(10), 6, true, saving + 3},
		{one(10), 7, true, saving + 3}, {four, 0, false, 5}, {four, 3, false, 5}, {four, 4, true, saving + 5},
	} {
		for op := 1; op <= c.ops+1; op++ {
			b := newBoth(t, 33)
			b.must(two())
			b.save(0)
			for now := range c.ticks {
				b.must(tick(now))
			}
			b.arm(op)
			if op > c.ops {
				b.must(c.q)
				b.refused(tick(50), api.ErrDisk)
				continue
			}
			b.refused(c.q, api.ErrDisk)
			turn := 1
			if c.saves && op > saving {
				turn = 2
			}
			if b.v.Seq() != 1+c.ticks || b.v.Turn() != turn || !b.v.Sick() {
				t.Fatalf("operation %d of %+v refused: seq %d, turn %d", op, c.q, b.v.Seq(), b.v.Turn())
			}
			b.refused(c.q, api.ErrSick)
			b.save(api.ErrSick)
			b.behindCrash().must(tick(41))
		}
	}
}

// TestP23_1Save saves again and again: each turn the other slot, and the other head.
func TestP23_1Save(t *testing.T) {
	for _, sectors := range []int{22, 27, 100} {
		b := newBoth(t, sectors)
		for turn := range 9 {
			was, seq := told(b.v), b.v.Seq()
			b.save(0)
			if b.v.Turn() != turn+1 || b.v.Seq() != seq || told(b.v) != was {
				t.Fatalf("turn %d, seq %d", b.v.Turn(), b.v.Seq())
			}
			b.behindCrash()
			b.must([]api.Request{two(), tick(1), one(10), tick(2), one(11), tick(3), tick(4), tick(4), tick(5)}[turn])
			b = b.behindCrash()
		}
	}
}

// TestP23_1SaveFits saves books that just fit, and such that take a sector more than there is.
func TestP23_1SaveFits(t *testing.T) {
	// 21, 6 by 96 and 3 by 217 are 12 by 104; 21, 2 by 96 and 11 by 217 are 25 by 104.
	for _, c := range []struct{ accounts, transfers, sectors int }{{6, 3, 32}, {2, 11, 65}, {3, 35, 192}} {
		for less := range 2 {
			b := newBoth(t, c.sectors-5*less/2)
			if slotSize(len(b.m.stands)) != (21+96*c.accounts+217*c.transfers)/104-less {
				t.Fatalf("slots of %d", slotSize(len(b.m.stands)))
			}
			for id := range c.accounts {
				b.must(opens(someone(uint64(id+1), 0)))
			}
			for id := range c.transfers - 1 {
				b.must(one(uint64(id + 10)))
			}
			b.save(0)
			b.must(one(100))
			if less == 0 {
				b.save(0)
				b.must(tick(1))
				b.save(0)
				b.must(one(101))
			}
			ops := b.d.Ops()
			b.save(api.ErrLong)
			b.save(api.ErrLong)
			if b.d.Ops() != ops || b.v.Sick() {
				t.Error("something was written")
			}
			b.arm(1)
			b.refused(tick(2), api.ErrDisk)
			b.save(api.ErrSick)
			b.behindCrash().must(tick(3))
		}
	}
}

// TestP23_1SaveOneByteTooMany saves books that have one byte more than a slot: nothing is written, nor synced.
func TestP23_1SaveOneByteTooMany(t *testing.T) {
	// 21, 7 by 96 and 4 by 217 are 15 by 104, and 1.
	for sectors, want := range map[int]api.Errno{40: api.ErrLong, 42: api.OK} {
		b := newBoth(t, sectors)
		for id := range 7 {
			b.must(opens(someone(uint64(id+1), 0)))
		}
		b.must(one(10), one(11))
		b.save(0)
		b.must(one(12), one(13))
		if n := len(told(b.v)); n != 15*104+1 {
			t.Fatalf("%d bytes", n)
		}
		put(t, b.d, 3, "it waits")
		b = b.again()
		b.save(want)
		if (b.d.Later() == 1) != (want == api.ErrLong) {
			t.Errorf("%d writes wait", b.d.Later())
		}
		b.arm(1)
		if want == api.ErrLong {
			b.save(want)
		} else {
			b.save(api.ErrDisk)
		}
		if b.v.Sick() != (want == api.OK) {
			t.Error("it is sick, or isn't")
		}
	}
}

// TestP23_1SaveDisk saves where the disk refuses, at each operation.
func TestP23_1SaveDisk(t *testing.T) {
	for _, list := range [][]api.Request{nil, {tick(3)}, {two()}, {two(), one(10), one(11)}} {
		for turns := range 3 {
			for op := 1; ; op++ {
				b := newBoth(t, 42)
				b.must(list...)
				for range turns {
					b.save(0)
				}
				b.arm(op)
				if op > takes(len(told(b.v)))+3 {
					b.save(0)
					break
				}
				b.save(api.ErrDisk)
				if b.v.Turn() != turns || b.v.Seq() != len(list) || !b.v.Sick() {
					t.Fatalf("turn %d, seq %d", b.v.Turn(), b.v.Seq())
				}
				b.save(api.ErrSick)
				b.refused(tick(9), api.ErrSick)
				b.behindCrash().save(0)
			}
		}
	}
}

// TestP23_1Numbers has sectors that bear numbers that nobody of the vault's wrote: what is written bears the one behind the greatest.
func TestP23_1Numbers(t *testing.T) {
	for _, n := range []int{1, 7, 255, 256, 1 << 40, most - 20} {
		for _, c := range []string{leafOf(n, 0, "x"), little(8, n), little(8, most+1) + strings.Repeat("\x05", 112) + little(8, n), leafOf(n, 3, "")[:128]} {
			for _, at := range []int{1, 2, 11, 12, 21, 25, 26} {
				d := platter.New(27)
				put(t, d, at, c)
				d.Sync()
				b := opened(t, d)
				b.must(tick(1))
				if got := number(stands(d)[22]); got != n+1 {
					t.Fatalf("%d, not %d", got, n+1)
				}
				b.save(0)
				all := stands(d)
				if got, head := number(all[12]), number(all[1]); got != n+2 || head != n+3 {
					t.Fatalf("%d and %d behind %d", got, head, n)
				}
				b.must(tick(2))
				b.behindCrash()
			}
		}
	}
}

// TestP23_1NoMoreNumbers has sectors, heads and records of the greatest numbers: what can't be any more is refused, and changes nothing.
func TestP23_1NoMoreNumbers(t *testing.T) {
	for sectors := 20; sectors < 22; sectors++ {
		for _, n := range []int{most, most - 1} {
			d := platter.New(sectors)
			put(t, d, 11, leafOf(n, 0, "x"))
			d.Sync()
			v, _ := vault.Open(d)
			for range 4 {
				v.Do(tick(5))
				v.Save()
			}
			w, err := vault.Open(d)
			if err != api.OK || told(v) != told(w) || v.Seq() != w.Seq() || v.Turn() != w.Turn() || v.Sick() || v.Turn() != 0 || v.Seq() != most-n {
				t.Errorf("%d, turns %d and %d, seqs %d and %d", err, v.Turn(), w.Turn(), v.Seq(), w.Seq())
			}
		}
	}
	d, s := platter.New(22), still.Bytes(nil)
	put(t, d, slotAt(22, most), partsOf(5, s)...)
	put(t, d, 0, leafOf(6, 0, headOf(most, 5, len(s), most-1)))
	d.Sync()
	b := opened(t, d)
	b.must(tick(1))
	v := b.v
	if p := v.Do(tick(2)); !sameReply(p, api.Reply{Err: api.ErrFull}) {
		t.Errorf("%+v", p)
	}
	if v.Save() == api.OK || v.Turn() != most || v.Seq() != most || v.Books().Clock() != 1 || v.Sick() {
		t.Errorf("turn %d, seq %d", v.Turn(), v.Seq())
	}
	b.d.Crash(0, -1, 0)
	if w := opened(t, d); w.v.Turn() != most || w.v.Seq() != most || w.v.Books().Clock() != 1 {
		t.Errorf("turn %d, seq %d", w.v.Turn(), w.v.Seq())
	}
}

// TestP23_1BooksAreNew asks for the books, and changes what it got: the vault's stay.
func TestP23_1BooksAreNew(t *testing.T) {
	b := newBoth(t, 100)
	b.must(two(), moves(wait(10, 1, 2, 5, 9), pay(11, 1, 2, 1, 0)))
	s, x := b.v.Books(), b.v.Books()
	was := still.Bytes(s)
	s.Open(someone(9, 0))
	s.End(wide.Of(10), 2)
	s.Time(30)
	a, _ := s.Account(wide.Of(1))
	a.Code = 77
	s.Turn(a)
	b.asks()
	if still.Bytes(x) != was || told(b.v) != was || s == x {
		t.Error("one is another one")
	}
	s.Back(0)
	b.asks()
	b.must(tick(9), opens(someone(3, 0)))
	if still.Bytes(x) != was || len(x.Accounts()) != 2 {
		t.Error("the copy goes on")
	}
	// It goes on as the vault's do.
	x = b.v.Books()
	for _, q := range []api.Request{moves(end(12, 10, 3, post)), moves(one(13).Transfers[0], one(11).Transfers[0]), opens(someone(4, 0)), tick(40)} {
		if got, want := engine.Do(x, q), b.do(q); !sameReply(got, want) {
			t.Errorf("%+v, not %+v", got, want)
		}
	}
	if still.Bytes(x) != told(b.v) {
		t.Error("they go on otherwise")
	}
}

// TestP23_1HandedIn changes requests behind their calls, and replies.
func TestP23_1HandedIn(t *testing.T) {
	b := newBoth(t, 100)
	q := two()
	room := append(q.Accounts, someone(8, 0))
	q.Accounts = room[:2]
	b.must(q)
	if room[2] != someone(8, 0) || room[0] != someone(1, 0) || room[1] != someone(2, 0) {
		t.Error("it was changed")
	}
	q.Accounts[0].Code = 9
	p := one(10)
	b.must(p)
	p.Transfers[0].Amount = wide.Of(1000)
	b.asks()
	was := b.v.Do(find(1, 2))
	was.Accounts[0].DebitsPosted = wide.Most
	found := b.v.Do(moved(10))
	found.Transfers[0].Amount = wide.Most
	results := b.v.Do(opens(someone(3, 0)))
	b.m.do(opens(someone(3, 0)))
	results.Results[0] = 9
	b.do(find(1, 2, 3))
	b.do(moved(10))
	b.behindCrash()
}

// TestP23_1VaultsKnowNothingOfOneAnother has two on two disks.
func TestP23_1VaultsKnowNothingOfOneAnother(t *testing.T) {
	b, x := newBoth(t, 30), newBoth(t, 30)
	b.must(two())
	x.asks()
	x.must(tick(7))
	b.asks()
	x.arm(1)
	x.refused(two(), api.ErrDisk)
	b.save(0)
	b.must(one(10))
	x.asks()
	x.refused(tick(8), api.ErrSick)
	b.asks()
}

// TestP23_1SettlesAhead opens a disk on which something isn't synced: that lasts ahead of what is written.
func TestP23_1SettlesAhead(t *testing.T) {
	for _, save := range []bool{false, true} {
		for op := range 2 {
			b := newBoth(t, 60)
			b.must(two())
			put(t, b.d, 40, "it waits")
			b = b.again()
			b.do(find(1, 2))
			b.refused(tick(-1), api.ErrArg)
			if b.d.Later() != 1 {
				t.Fatalf("%d writes wait", b.d.Later())
			}
			b.arm(op)
			want := []api.Errno{api.OK, api.ErrDisk}[op]
			if save {
				b.save(want)
			} else if p := b.do(tick(9)); p.Err != want {
				t.Fatalf("%+v", p)
			}
			b.d.Crash(0, -1, 0)
			if s, _ := b.d.Read(40); (s[0] == 'i') != (op == 0) {
				t.Errorf("%q", s)
			}
			b.again().must(tick(10))
		}
	}
}
