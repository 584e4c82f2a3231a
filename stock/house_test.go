package stock_test

import (
	"math/big"
	"slices"
	"testing"

	"bondstore/api"
	"bondstore/stock"
	"bondstore/store"
	"bondstore/wire"
)

// both is a store, what it should tell of goods, and what was told of them that came and left.
type both struct {
	t     *testing.T
	s     *store.Store
	h     house
	spots []spot
	came  map[string]*big.Int
	left  map[string]*big.Int
}

func newBoth(t *testing.T, spots ...spot) *both {
	t.Helper()
	s, e := store.New(600)
	if e != 0 {
		t.Fatal(e)
	}
	b := &both{t, s, newHouse(), spots, map[string]*big.Int{}, map[string]*big.Int{}}
	for _, at := range spots {
		b.came[at.good], b.left[at.good] = new(big.Int), new(big.Int)
	}
	b.asks()
	return b
}

// reply answers what the store replies to a request.
func (b *both) reply(q api.Request) api.Reply {
	b.t.Helper()
	bytes, e := wire.Bytes(q)
	if e != 0 {
		b.t.Fatalf("%+v has no bytes", q)
	}
	p, e := wire.ReadReply(b.s.Do(bytes))
	if e != 0 {
		b.t.Fatalf("no reply to %+v", q)
	}
	return p
}

// told is what the store tells of a spot.
func (b *both) told(at spot) (stock.Count, api.Errno) {
	b.t.Helper()
	q, e := stock.Ask(at.good, at.site)
	if e != 0 {
		b.t.Fatalf("Ask(%v): %d", at, e)
	}
	return stock.Read(b.reply(q))
}

// agrees tells whether the store tells what a house does.
func (b *both) agrees(h house) bool {
	b.t.Helper()
	for _, at := range b.spots {
		c, e := b.told(at)
		if want, wrong := h.count(at); c != want || e != wrong {
			return false
		}
	}
	return b.s.Books().Clock() == h.clock
}

// asks holds the store to the house, and to what was told ahead: what came is there, or has left.
func (b *both) asks() {
	b.t.Helper()
	sums := map[string]*big.Int{}
	left := map[string]*big.Int{}
	for _, at := range b.spots {
		c, e := b.told(at)
		if want, wrong := b.h.count(at); c != want || e != wrong {
			b.t.Fatalf("of %v: %+v, %d, not %+v, %d", at, c, e, want, wrong)
		}
		if large(c.Held).Cmp(large(c.OnHand)) > 0 {
			b.t.Fatalf("of %v more is held than there is: %+v", at, c)
		}
		if sums[at.good] == nil {
			sums[at.good], left[at.good] = new(big.Int), new(big.Int)
		}
		sums[at.good] = plus(sums[at.good], large(c.OnHand), large(c.Shipped))
		left[at.good] = plus(left[at.good], large(c.Shipped))
	}
	for good, sum := range sums {
		if sum.Cmp(b.came[good]) != 0 || left[good].Cmp(b.left[good]) != 0 {
			b.t.Fatalf("of %s %v are there, or have left, and %v came; %v have left, and %v were shipped", good, sum, b.came[good], left[good], b.left[good])
		}
	}
}

// note keeps in mind what the store told of an order, and of which goods it was.
func (b *both) note(o order, results []api.Result, was house) {
	if slices.ContainsFunc(results, func(r api.Result) bool { return r != 0 }) {
		return
	}
	switch o.what {
	case "receive":
		b.came[o.good] = plus(b.came[o.good], large(o.n))
	case "ship":
		x, n := was.holds[o.held], large(o.n)
		if n.Sign() == 0 {
			n = x.n
		}
		b.left[x.at.good] = plus(b.left[x.at.good], n)
	}
}

// do asks for an order, holds what is told to what should be, and answers that.
func (b *both) do(o order) []api.Result {
	b.t.Helper()
	q, e := o.request()
	if e != 0 {
		b.t.Fatalf("%+v: %d", o, e)
	}
	was := b.h.behind()
	want := b.h.do(o)
	p := b.reply(q)
	if p.Err != 0 || !slices.Equal(p.Results, want) {
		b.t.Fatalf("%+v: %+v, not %v", o, p, want)
	}
	b.note(o, p.Results, was)
	b.asks()
	return want
}

// must asks for an order of which just these results come.
func (b *both) must(o order, want ...api.Result) {
	b.t.Helper()
	if got := b.do(o); !slices.Equal(got, want) {
		b.t.Fatalf("%+v: %v, not %v", o, got, want)
	}
}

// there asks whether so many are there, are held, and have left.
func (b *both) there(good, site string, onHand, held, shipped int) {
	b.t.Helper()
	want := stock.Count{OnHand: small(onHand), Held: small(held), Shipped: small(shipped)}
	if c, e := b.told(spot{good, site}); c != want || e != 0 {
		b.t.Fatalf("of %s at %s: %+v, %d, not %+v", good, site, c, e, want)
	}
}

// Orders of BOLT at NY, and elsewhere.
func opened(site string) order { return order{what: "open", good: "BOLT", site: site} }
func receive(id, n int) order {
	return order{what: "receive", id: small(id), good: "BOLT", site: "NY", n: small(n)}
}
func reserve(id, n, ticks int) order {
	return order{what: "reserve", id: small(id), good: "BOLT", site: "NY", n: small(n), ticks: ticks}
}
func ship(id, held, n int) order {
	return order{what: "ship", id: small(id), held: small(held), n: small(n)}
}
func cancel(id, held int) order { return order{what: "cancel", id: small(id), held: small(held)} }
func move(id int, to string, n int) order {
	return order{what: "move", id: small(id), good: "BOLT", site: "NY", to: to, n: small(n)}
}
func tick(now int) order { return order{what: "tick", ticks: now} }

// bolts is a store with BOLT at NY, LA and X, nothing anywhere, not open at X.
func bolts(t *testing.T) *both {
	t.Helper()
	b := newBoth(t, spot{"BOLT", "NY"}, spot{"BOLT", "LA"}, spot{"BOLT", "X"})
	b.must(opened("NY"), 0, 0, 0)
	b.must(opened("LA"), 0, 0, 0)
	return b
}
