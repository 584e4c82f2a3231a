package vault_test

import (
	"slices"
	"testing"

	"bondstore/api"
	"bondstore/engine"
	"bondstore/platter"
	"bondstore/still"
	"bondstore/vault"
	"bondstore/wide"
)

// stand is what books are, and how many requests were done.
type stand struct {
	books string
	seq   int
}

func standOf(v *vault.Vault) stand { return stand{told(v), v.Seq()} }

// then is the stand behind one more request.
func (s stand) then(t *testing.T, q api.Request) stand {
	t.Helper()
	state, err := still.Read(s.books)
	if err != api.OK {
		t.Fatal(err)
	}
	engine.Do(state, q)
	return stand{still.Bytes(state), s.seq + 1}
}

// isOneOf holds a vault to standing where it may.
func (b *both) isOneOf(may ...stand) {
	b.t.Helper()
	if !slices.Contains(may, standOf(b.v)) {
		b.t.Fatalf("%d requests done, books %x; not one of %x", b.v.Seq(), told(b.v), may)
	}
}

// act is a request that may change something, or (of none) that the books are saved.
type act []api.Request

func do(q api.Request) act { return act{q} }

var save = act{}

func (a act) on(v *vault.Vault) api.Errno {
	if len(a) == 0 {
		return v.Save()
	}
	return v.Do(a[0]).Err
}

// behind are the stands at which an act that was refused at one may leave a disk.
func (a act) behind(t *testing.T, s stand) []stand {
	t.Helper()
	if len(a) == 0 {
		return []stand{s}
	}
	return []stand{s, s.then(t, a[0])}
}

// story are acts, one behind the other, that need 3 accounts and 3 transfers at most, in up to 960 bytes.
func story() []act {
	return []act{
		do(two()), save, do(one(10)), do(tick(3)), do(moves(wait(11, 1, 2, 7, 4))), save, save, do(opens(someone(3, linked), someone(3, 0))), do(opens(someone(3, 0))),
		do(tick(6)), do(tick(7)), do(moves(end(12, 11, 3, post))), do(tick(8)), save, do(tick(9)), do(tick(10)), do(tick(11)), do(tick(12)), do(tick(13)), do(tick(14)), do(tick(15)),
	}
}

// crash is what persists at one.
type crash struct {
	mask      uint64
	torn, cut int
}

// cuts are those at a sector's parts, and by them.
var cuts = []int{0, 1, 4, 7, 8, 9, 11, 12, 20, 60, 116, 119, 120, 121, 127, 128}

// crashes are such of so many writes that wait: of few each set of them, and each of them torn at each of some places; of many some sets.
func crashes(n int) []crash {
	full := uint64(1)<<n - 1
	masks := []uint64{0, full}
	for i := range n {
		masks = append(masks, 1<<i, full&^(1<<i), 1<<i-1)
	}
	if n <= 4 {
		masks = nil
		for mask := range full + 1 {
			masks = append(masks, mask)
		}
	}
	var list []crash
	for _, mask := range masks {
		list = append(list, crash{mask, -1, 0})
	}
	for torn := range n {
		for i, cut := range cuts {
			list = append(list, crash{full, torn, cut}, crash{1<<torn - 1, torn, cut}, crash{0x5a5a5a5a >> (i % 4) & full, torn, cut})
		}
	}
	return list
}

// refusedAt opens a disk of such sectors, does an act at whose n-th operation the disk refuses, and answers that disk; false: it has no such operation.
func refusedAt(t *testing.T, sectors []string, a act, op int) (*platter.Disk, bool) {
	t.Helper()
	d := diskOf(t, sectors)
	v, err := vault.Open(d)
	if err != api.OK {
		t.Fatal(err)
	}
	d.Arm(op)
	return d, a.on(v) == api.ErrDisk
}

// TestP23_2Crashes lets the power go at each operation of each act of a story, on several disks, and goes on from there.
func TestP23_2Crashes(t *testing.T) {
	there, not := 0, 0
	for _, sectors := range []int{12, 17, 27} {
		b := newBoth(t, sectors)
		for i, a := range story() {
			base, was := stands(b.d), standOf(b.v)
			turn := b.v.Turn()
			for op := 1; ; op++ {
				d, is := refusedAt(t, base, a, op)
				if !is {
					break
				}
				for _, c := range crashes(d.Later()) {
					d, _ := refusedAt(t, base, a, op)
					d.Crash(c.mask, c.torn, c.cut)
					w := opened(t, d)
					w.isOneOf(a.behind(t, was)...)
					if w.v.Turn() < turn || w.v.Turn() > turn+1 || w.v.Sick() {
						t.Fatalf("turn %d behind %d", w.v.Turn(), turn)
					}
					if standOf(w.v) == was {
						not++
					} else {
						there++
					}
					if (there+not)%5 == 0 {
						w.goOn(story()[(i+1)%len(story())])
					}
				}
			}
			b.act(a)
		}
	}
	if there < 200 || not < 5000 {
		t.Errorf("%d times there, %d times not", there, not)
	}
}

// act does one, and holds it to what it should do; of a saving the reply is its error alone.
func (b *both) act(a act) api.Reply {
	b.t.Helper()
	if len(a) > 0 {
		return b.do(a[0])
	}
	want := b.m.save()
	if err := a.on(b.v); err != want {
		b.t.Fatalf("Save: %d, not %d", err, want)
	}
	b.asks()
	return api.Reply{Err: want}
}

// goOn does an act behind a crash, and opens the disk again: what was answered without an error is there.
func (b *both) goOn(a act) {
	b.t.Helper()
	was := standOf(b.v)
	may := a.behind(b.t, was)
	want := may[len(may)-1]
	if b.act(a).Err != api.OK {
		want = was
	}
	b.behindCrash().isOneOf(want)
	b.isOneOf(want)
}

// TestP23_2OpenedInBetween opens a disk that has refused once more ahead of the crash, does another act, which may be refused, too, and lets the power go then.
func TestP23_2OpenedInBetween(t *testing.T) {
	c, goesOn, ends := newChances(23), 0, 0
	for _, sectors := range []int{17, 22, 27} {
		b := newBoth(t, sectors)
		for i, a := range story() {
			base, was := stands(b.d), standOf(b.v)
			for op := 1; ; op++ {
				if _, is := refusedAt(t, base, a, op); !is {
					break
				}
				for _, next := range []act{do(tick(40)), do(opens(someone(4, 0))), save, story()[(i+1)%len(story())]} {
					for range 6 {
						d, _ := refusedAt(t, base, a, op)
						w := opened(t, d)
						may := a.behind(t, was)
						w.isOneOf(may...)
						w.arm(c.Intn(10))
						may, err := w.may(next, may)
						switch err {
						case api.OK:
							goesOn++
						case api.ErrDisk:
							ends++
						}
						w = w.power(c.crash(d.Later()))
						w.isOneOf(may...)
						w.goOn(next)
					}
				}
			}
			b.act(a)
		}
	}
	if goesOn < 500 || ends < 500 {
		t.Errorf("%d went on, %d ended", goesOn, ends)
	}
}

// may does an act over a disk that may stand at some stands behind a crash, and answers those at which it may behind that.
func (b *both) may(a act, stands []stand) ([]stand, api.Errno) {
	b.t.Helper()
	view, later, ops := standOf(b.v), b.d.Later(), b.d.Ops()
	err := b.act(a).Err
	switch {
	case err == api.OK:
		return []stand{standOf(b.v)}, err
	case err == api.ErrDisk:
		return append(stands, a.behind(b.t, view)...), err
	case later > 0 && b.d.Later() == 0 && b.d.Ops() > ops:
		// It was refused for want of room, behind a saving.
		return []stand{view}, err
	}
	return stands, err
}

// TestP23_2ByChance does requests in chance orders, and saves, over a disk that refuses now and then, crashes, and is opened again, behind a crash or not: what was answered without an error stays.
func TestP23_2ByChance(t *testing.T) {
	errs, opens, turns := map[api.Errno]int{}, 0, 0
	for seed := range int64(120) {
		c := newChances(seed)
		b := newBoth(t, []int{12, 14, 17, 22, 27, 40, 100, 600}[seed%8])
		may := []stand{standOf(b.v)}
		for range 120 {
			switch c.Intn(14) {
			case 0, 1:
				b.arm(c.Intn(12))
			case 2:
				b = b.again()
				b.isOneOf(may...)
				opens++
			case 3:
				b = b.power(c.crash(b.d.Later()))
				b.isOneOf(may...)
				may = []stand{standOf(b.v)}
			case 4:
				if b.v.Sick() {
					b = b.power(c.crash(b.d.Later()))
					b.isOneOf(may...)
					may = []stand{standOf(b.v)}
				}
			default:
				a := c.act(b.v.Books())
				if len(a) > 0 && !engine.Writes(a[0]) {
					b.act(a)
					break
				}
				var err api.Errno
				may, err = b.may(a, may)
				errs[err]++
			}
		}
		turns += b.v.Turn()
	}
	for _, err := range []api.Errno{0, 1, 3, 6, 8, 9} {
		if errs[err] < 20 {
			t.Errorf("just %d times %d: %v", errs[err], err, errs)
		}
	}
	if len(errs) != 6 || opens < 100 || turns < 100 {
		t.Errorf("%v, opened %d times, saved %d times", errs, opens, turns)
	}
}

// TestP23_2NothingIsLost does many requests over a disk that has room for all that there may be, and lets the power go behind each: all are there.
func TestP23_2NothingIsLost(t *testing.T) {
	c, b := newChances(600), newBoth(t, 600)
	full := 0
	for range 600 {
		a := c.act(b.v.Books())
		p := b.act(a)
		if p.Err != api.OK && p.Err != api.ErrArg {
			t.Fatalf("%+v: %+v", a, p)
		}
		if slices.Contains(p.Results, api.StoreFull) {
			full++
		}
		was := standOf(b.v)
		b = b.behindCrash()
		b.isOneOf(was)
	}
	if full < 5 || b.v.Turn() < 10 {
		t.Errorf("%d times there was no room, turn %d", full, b.v.Turn())
	}
}

// TestP23_2Phantoms has a record that isn't there, and one that is behind it: that one mustn't come back when there is another one instead of the first.
func TestP23_2Phantoms(t *testing.T) {
	for _, second := range []int{2, 3} {
		for mask := range uint64(4) {
			b := newBoth(t, 27)
			b.must(tick(1))
			b.arm(2)
			b.refused(tick(2), api.ErrDisk)
			b = b.again()
			b.arm(second)
			b.refused(tick(3), api.ErrDisk)
			b = b.power(mask, -1, 0)
			b.must(tick(9))
			was := standOf(b.v)
			for range 3 {
				b = b.behindCrash()
				b.isOneOf(was)
			}
		}
	}
}

// TestP23_2HeadThatMayGo has a head that was written, and not synced: what the one ahead of it tells of, and the records behind that, stay as long as it may go.
func TestP23_2HeadThatMayGo(t *testing.T) {
	for _, next := range []act{do(tick(9)), save} {
		for op := 1; op < 9; op++ {
			for _, mask := range []uint64{0, 1, 2, 3, 6, 0xfe, 0xff} {
				b := newBoth(t, 27)
				b.must(two())
				b.save(0)
				b.must(one(10))
				b.arm(takes(len(told(b.v))) + 3)
				b.save(api.ErrDisk)
				was := standOf(b.v)
				b = b.again()
				if b.v.Turn() != 2 {
					t.Fatalf("turn %d", b.v.Turn())
				}
				b.arm(op)
				may, _ := b.may(next, []stand{was})
				b = b.power(mask, -1, 0)
				b.isOneOf(may...)
				b.must(tick(10))
				b.behindCrash()
			}
		}
	}
}

// TestP23_3Sick lets the disk refuse at each operation of acts: what is asked for then is answered as ahead of that, and nothing more is written, whatever is asked for.
func TestP23_3Sick(t *testing.T) {
	for _, a := range []act{do(tick(50)), do(one(40)), do(opens(someone(8, 0))), save} {
		for _, ticks := range []int{0, 5} {
			for op := 1; ; op++ {
				b := newBoth(t, 45)
				b.must(opens(someone(1, 0), someone(2, 0), someone(3, debits)), moves(pay(10, 1, 2, 5, 0), wait(11, 2, 3, 4, 40)), moves(end(13, 11, 1, post), wait(12, 1, 2, 6, 20)))
				b.save(0)
				for now := range ticks {
					b.must(tick(now + 3))
				}
				was, seq := told(b.v), b.v.Seq()
				var replies []api.Reply
				for _, q := range everything() {
					replies = append(replies, b.do(q))
				}
				b.arm(op)
				if b.act(a).Err != api.ErrDisk {
					break
				}
				ops, turn, later := b.d.Ops(), b.v.Turn(), b.d.Later()
				for range 2 {
					for i, q := range everything() {
						if p := b.do(q); !sameReply(p, replies[i]) {
							t.Fatalf("Do(%+v): %+v, not %+v", q, p, replies[i])
						}
					}
					b.refused(tick(60), api.ErrSick)
					b.refused(opens(someone(7, 0)), api.ErrSick)
					b.refused(moves(end(14, 12, 0, void)), api.ErrSick)
					b.refused(opens(), api.ErrArg)
					b.save(api.ErrSick)
				}
				if told(b.v) != was || b.v.Seq() != seq || b.v.Turn() != turn || !b.v.Sick() || b.d.Ops() != ops || b.d.Later() != later {
					t.Fatalf("operation %d refused: seq %d, turn %d", op, b.v.Seq(), b.v.Turn())
				}
				// A disk that refuses no more, or another time, doesn't make it well.
				b.arm(0)
				b.d.Sync()
				b.m.tries()
				b.m.later = 0
				b.refused(tick(60), api.ErrSick)
				b.save(api.ErrSick)
				if b.again().v.Sick() {
					t.Fatal("it is sick ahead of all")
				}
			}
		}
	}
}

// TestP23_3Settling lets the disk refuse to sync what somebody left.
func TestP23_3Settling(t *testing.T) {
	for _, a := range []act{do(tick(5)), save} {
		b := newBoth(t, 27)
		b.must(two())
		b.arm(2)
		b.refused(tick(3), api.ErrDisk)
		b = b.again()
		b.isOneOf(stand{stateOf(t, two(), tick(3)), 2})
		b.arm(1)
		if err := b.act(a).Err; err != api.ErrDisk || !b.v.Sick() || b.d.Later() != 1 {
			t.Fatalf("%d, sick %v, %d writes wait", err, b.v.Sick(), b.d.Later())
		}
		if p := b.do(find(1, 2)); len(p.Accounts) != 2 || p.Accounts[0].Id != wide.Of(1) {
			t.Errorf("%+v", p)
		}
		b.refused(tick(6), api.ErrSick)
		b.save(api.ErrSick)
		b.behindCrash().isOneOf(stand{stateOf(t, two()), 1})
	}
}
