package stock_test

import (
	"math"
	"math/rand"
	"testing"

	"bondstore/api"
)

// chances makes orders at random, alike in each run.
type chances struct {
	*rand.Rand
	next int     // the last name that was asked for
	past []order // those that were made
}

func newChances(seed int64) *chances {
	return &chances{rand.New(rand.NewSource(seed)), 1, nil}
}

// chanceSpots are those that orders are about; the last ones are opened late, or never.
func chanceSpots() []spot {
	return []spot{{"BOLT", "NY"}, {"BOLT", "LA"}, {"NUT", "NY"}, {"NUT", "LA"}, {"BOLT", "X"}, {"NUT", "X"}}
}

// id is a new name mostly, so far behind the one ahead that a move has room for two.
func (c *chances) id() api.Num {
	switch c.Intn(40) {
	case 0:
		return []api.Num{{}, most, {Hi: top, Lo: top - 1}, {Hi: top}, {Hi: top, Lo: top - 2}}[c.Intn(5)]
	case 1, 2, 3:
		return small(1 + c.Intn(c.next))
	}
	c.next += 1 + c.Intn(4)/3
	return small(c.next)
}

// amount is a few mostly.
func (c *chances) amount() api.Num {
	if c.Intn(30) == 0 {
		return []api.Num{{}, most, {Hi: top, Lo: top - 20}, {Hi: 1}, {Hi: 1 << 63}}[c.Intn(5)]
	}
	return small(1 + c.Intn(9))
}

// heldOf is the name of something that is held mostly.
func (c *chances) heldOf(h house) api.Num {
	if c.Intn(8) == 0 {
		return c.id()
	}
	// Names are gone over in order, for a map is not.
	var all, waiting []api.Num
	for n := range c.next + 1 {
		x, is := h.holds[small(n)]
		if is {
			all = append(all, small(n))
		}
		if is && x.fate == waits {
			waiting = append(waiting, small(n))
		}
	}
	if len(waiting) > 0 && c.Intn(4) > 0 {
		return waiting[c.Intn(len(waiting))]
	}
	if len(all) > 0 {
		return all[c.Intn(len(all))]
	}
	return c.id()
}

// order is one of any kind, now and then one that was made already.
func (c *chances) order(h house) order {
	if len(c.past) > 0 && c.Intn(25) == 0 {
		return c.past[c.Intn(len(c.past))]
	}
	o := c.another(h)
	c.past = append(c.past, o)
	return o
}

// another is one of any kind.
func (c *chances) another(h house) order {
	spots := chanceSpots()
	at := spots[c.Intn(4+c.Intn(3))]
	o := order{id: c.id(), good: at.good, site: at.site, n: c.amount()}
	switch c.Intn(16) {
	case 0:
		return order{what: "open", good: at.good, site: at.site}
	case 1, 2:
		return order{what: "tick", ticks: max(h.clock+c.Intn(5)-1, 0)}
	case 3, 4, 5, 6:
		o.what = "receive"
	case 7, 8, 9:
		o.what, o.ticks = "reserve", []int{0, 1, 2, 3, 5, 9, 1 << 30, 1<<30 + 1, 1<<32 - 1}[c.Intn(7+c.Intn(12)/11*2)]
	case 10, 11:
		o = order{what: "ship", id: o.id, held: c.heldOf(h), n: []api.Num{{}, small(1), small(2), small(3), o.n}[c.Intn(5)]}
	case 12:
		o = order{what: "cancel", id: o.id, held: c.heldOf(h)}
	default:
		return c.move(o)
	}
	return o
}

// move is an order to go from site to site, of a name that has another one behind it.
func (c *chances) move(o order) order {
	if o.id == most {
		o.id = small(c.next)
	}
	sites := []string{"NY", "LA", "NY", "LA", "X"}
	for o.to = o.site; o.to == o.site; {
		o.to = sites[c.Intn(len(sites))]
	}
	o.what = "move"
	c.next++
	return o
}

// openAll opens the spots of chance orders, but for the last ones.
func openAll(b *both) {
	for _, at := range chanceSpots()[:4] {
		b.must(order{what: "open", good: at.good, site: at.site}, 0, 0, 0)
	}
}

// Orders in any row: each reply and each count is the one of goods that come, are held, leave, and go elsewhere.
func TestP27_2Chances(t *testing.T) {
	seen := map[string]map[api.Result]int{}
	for seed := range 150 {
		c := newChances(int64(seed))
		b := newBoth(t, chanceSpots()...)
		openAll(b)
		for range 160 {
			o := c.order(b.h)
			for _, r := range b.do(o) {
				if seen[o.what] == nil {
					seen[o.what] = map[api.Result]int{}
				}
				seen[o.what][r]++
			}
			c.disturb(b)
		}
	}
	for what, results := range map[string][]api.Result{
		"open":    {0, 1, 10},
		"receive": {0, 4, 5, 10, 11, 18, 19, 32, 35},
		"reserve": {0, 4, 5, 10, 11, 17, 18, 19, 32, 34, 35},
		"ship":    {0, 4, 5, 10, 11, 23, 24, 26, 27, 28, 29, 35},
		"cancel":  {0, 4, 5, 10, 11, 23, 24, 27, 28, 29, 35},
		"move":    {0, 1, 4, 5, 10, 11, 18, 19, 32, 34, 35},
	} {
		for _, r := range results {
			if seen[what][r] == 0 {
				t.Errorf("%s never came to %d", what, r)
			}
		}
	}
}

// disturb does, now and then, what mustn't change any goods: the books are saved, or the power goes.
func (c *chances) disturb(b *both) {
	b.t.Helper()
	var e api.Errno
	switch c.Intn(30) {
	case 0:
		e = b.s.Save()
	case 1:
		e = b.s.Power(c.Uint64(), c.Intn(8)-2, c.Intn(129))
	default:
		return
	}
	if e != 0 {
		b.t.Fatalf("refused: %d", e)
	}
	b.asks()
}

// refuse asks for an order, of which the disk refuses the n-th operation; behind a crash it was done whole, or not at all. It tells whether the disk refused, and whether the order was done even so.
func (b *both) refuse(c *chances, o order, n int) (bool, bool) {
	b.t.Helper()
	q, e := o.request()
	if e != 0 {
		b.t.Fatalf("%+v: %d", o, e)
	}
	was := b.h.behind()
	then := b.h.behind()
	results := then.do(o)
	b.s.Arm(n)
	p := b.reply(q)
	b.s.Arm(0)
	if p.Err != 0 && p.Err != 8 {
		b.t.Fatalf("%+v: %+v", o, p)
	}
	masks := []uint64{0, math.MaxUint64, c.Uint64()}
	if e := b.s.Power(masks[c.Intn(3)], c.Intn(8)-2, c.Intn(129)); e != 0 {
		b.t.Fatalf("it isn't opened: %d", e)
	}
	done := p.Err == 0 || b.agrees(then)
	b.h = was
	if done {
		b.h = then
		b.note(o, results, was)
	}
	b.asks()
	return p.Err == 8, done
}

// Orders that the disk refuses, and the power that goes behind them: goods that were shipped have left once, and those that were moved are at one site.
func TestP27_2Refusals(t *testing.T) {
	var refused, done, all int
	for seed := range 100 {
		c := newChances(int64(1000 + seed))
		b := newBoth(t, chanceSpots()...)
		openAll(b)
		for range 70 {
			o := c.order(b.h)
			if c.Intn(3) > 0 {
				b.do(o)
				continue
			}
			all++
			no, yes := b.refuse(c, o, 1+c.Intn(7))
			if no {
				refused++
			}
			if no && yes {
				done++
			}
		}
	}
	if refused < 500 || done < 100 || refused-done < 100 || all-refused < 100 {
		t.Errorf("of %d %d refused, of which %d were done", all, refused, done)
	}
}

// Of an order that the disk refused, asked for again behind the crash, the goods are as if it was done once.
func TestP27_2RefusedAndAgain(t *testing.T) {
	for n := 1; n <= 7; n++ {
		for seed := range 8 {
			c := newChances(int64(seed))
			b := bolts(t)
			b.must(receive(1, 10), 0)
			b.must(reserve(2, 4, 5), 0)
			for _, o := range []order{ship(3, 2, 3), move(4, "LA", 5), reserve(6, 2, 0), cancel(7, 6)} {
				b.refuse(c, o, n)
				b.do(o)
				b.do(o)
			}
			b.there("BOLT", "NY", 2, 0, 3)
			b.there("BOLT", "LA", 5, 0, 0)
		}
	}
}
