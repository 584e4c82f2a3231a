package stock_test

import (
	"testing"

	"bondstore/api"
	"bondstore/stock"
)

// The chapter's example, and what is told of goods that aren't open.
func TestP27_2Example(t *testing.T) {
	b := bolts(t)
	b.must(receive(1, 10), 0)
	b.must(reserve(2, 4, 0), 0)
	b.there("BOLT", "NY", 10, 4, 0)
	b.must(ship(3, 2, 3), 0)
	b.there("BOLT", "NY", 7, 0, 3)
	b.there("BOLT", "LA", 0, 0, 0)
	if c, e := b.told(spot{"BOLT", "X"}); e != 5 || large(c.OnHand).Sign() != 0 {
		t.Errorf("%+v, %d", c, e)
	}
}

func TestP27_2OpenedOnce(t *testing.T) {
	b := bolts(t)
	b.must(receive(1, 10), 0)
	b.must(opened("NY"), 10, 1, 1)
	b.there("BOLT", "NY", 10, 0, 0)
	b.must(opened("X"), 0, 0, 0)
	b.there("BOLT", "X", 0, 0, 0)
}

// There is room for ten spots; of the eleventh one no account is made.
func TestP27_2OpenedWhole(t *testing.T) {
	var spots []spot
	for i := range 11 {
		spots = append(spots, spot{"NUT", "ABCDEFGHIJK"[i : i+1]})
	}
	b := newBoth(t, spots...)
	for i, at := range spots {
		want := []api.Result{0, 0, 0}
		if i == 10 {
			want = []api.Result{1, 1, 35}
		}
		b.must(order{what: "open", good: at.good, site: at.site}, want...)
	}
	b.must(order{what: "open", good: "NUT", site: "K"}, 1, 1, 35)
	b.must(order{what: "open", good: "NUT", site: "A"}, 10, 1, 1)
	if n := len(b.s.Books().Accounts()); n != 30 {
		t.Errorf("%d accounts", n)
	}
}

// What isn't open takes nothing, holds nothing, and gives nothing.
func TestP27_2NotOpen(t *testing.T) {
	b := newBoth(t, spot{"BOLT", "NY"}, spot{"BOLT", "LA"})
	b.must(receive(1, 10), 19)
	b.must(reserve(2, 1, 0), 19)
	b.must(move(3, "LA", 1), 19, 1)
	b.must(ship(4, 2, 0), 23)
	b.must(cancel(4, 2), 23)
	b.must(opened("NY"), 0, 0, 0)
	b.must(receive(1, 10), 0)
	b.must(move(3, "LA", 4), 1, 19)
	b.there("BOLT", "NY", 10, 0, 0)
	b.must(opened("LA"), 0, 0, 0)
	b.must(move(3, "LA", 4), 0, 0)
	b.there("BOLT", "NY", 6, 0, 0)
	b.there("BOLT", "LA", 4, 0, 0)
}

// No more is held, shipped and moved than came.
func TestP27_2NoMoreThanCame(t *testing.T) {
	b := bolts(t)
	b.must(reserve(1, 1, 0), 34)
	b.must(move(2, "LA", 1), 34, 1)
	b.must(receive(3, 10), 0)
	b.must(reserve(1, 11, 0), 34)
	b.must(move(2, "LA", 11), 34, 1)
	b.must(reserve(1, 4, 0), 0)
	b.must(reserve(4, 7, 0), 34)
	b.must(move(2, "LA", 7), 34, 1)
	b.must(reserve(4, 6, 0), 0)
	b.there("BOLT", "NY", 10, 10, 0)
	b.must(reserve(5, 1, 0), 34)
	b.must(move(2, "LA", 1), 34, 1)
	b.must(ship(6, 1, 0), 0)
	b.there("BOLT", "NY", 6, 6, 4)
	b.must(reserve(5, 1, 0), 34)
	b.must(cancel(7, 4), 0)
	b.there("BOLT", "NY", 6, 0, 4)
	b.must(move(2, "LA", 7), 34, 1)
	b.must(reserve(5, 2, 0), 0)
	b.must(move(8, "LA", 4), 0, 0)
	b.there("BOLT", "NY", 2, 2, 4)
	b.there("BOLT", "LA", 4, 0, 0)
	b.must(move(10, "LA", 1), 34, 1)
	b.must(reserve(10, 1, 0), 34)
}

// Goods at one site are none of another one's, and none of other goods.
func TestP27_2EachByItself(t *testing.T) {
	b := newBoth(t, spot{"BOLT", "NY"}, spot{"BOLT", "LA"}, spot{"NUT", "NY"}, spot{"BOLTNY", "LA"})
	for _, at := range b.spots {
		b.must(order{what: "open", good: at.good, site: at.site}, 0, 0, 0)
	}
	b.must(receive(1, 10), 0)
	for i, at := range b.spots[1:] {
		b.must(order{what: "reserve", id: small(2), good: at.good, site: at.site, n: small(1)}, 34)
		b.must(order{what: "receive", id: small(10 + i), good: at.good, site: at.site, n: small(i + 1)}, 0)
	}
	b.there("BOLT", "NY", 10, 0, 0)
	b.there("BOLT", "LA", 1, 0, 0)
	b.there("NUT", "NY", 2, 0, 0)
	b.there("BOLTNY", "LA", 3, 0, 0)
}

func TestP27_2ShippedOnce(t *testing.T) {
	b := bolts(t)
	b.must(receive(1, 10), 0)
	b.must(reserve(2, 4, 0), 0)
	b.must(ship(3, 2, 4), 0)
	for _, n := range []int{0, 1, 4, 5} {
		b.must(ship(4, 2, n), 27)
	}
	b.must(cancel(4, 2), 27)
	b.must(ship(3, 2, 4), 10)
	b.must(ship(3, 2, 0), 11)
	b.must(cancel(3, 2), 11)
	b.there("BOLT", "NY", 6, 0, 4)
}

// Of what is held a part leaves, and what is left of it is held no more.
func TestP27_2ShippedInPart(t *testing.T) {
	for n := range 6 {
		b := bolts(t)
		b.must(receive(1, 10), 0)
		b.must(reserve(2, 4, 0), 0)
		b.must(reserve(3, 6, 0), 0)
		left := n
		switch n {
		case 0:
			left = 4
		case 5:
			b.must(ship(4, 2, n), 26)
			b.there("BOLT", "NY", 10, 10, 0)
			continue
		}
		b.must(ship(4, 2, n), 0)
		b.there("BOLT", "NY", 10-left, 6, left)
		b.must(ship(5, 2, 1), 27)
		b.must(ship(5, 3, 6), 0)
		b.there("BOLT", "NY", 4-left, 0, left+6)
	}
}

func TestP27_2Cancelled(t *testing.T) {
	b := bolts(t)
	b.must(receive(1, 10), 0)
	b.must(reserve(2, 4, 5), 0)
	b.must(cancel(3, 2), 0)
	b.there("BOLT", "NY", 10, 0, 0)
	b.must(ship(4, 2, 0), 28)
	b.must(ship(4, 2, 5), 28)
	b.must(cancel(4, 2), 28)
	b.must(cancel(3, 2), 10)
	b.must(tick(5))
	b.must(cancel(4, 2), 28)
	b.there("BOLT", "NY", 10, 0, 0)
	b.must(reserve(4, 10, 0), 0)
}

// Goods that are held until 5: at 5 they are held no more.
func TestP27_2HeldUntil(t *testing.T) {
	b := bolts(t)
	b.must(receive(1, 10), 0)
	b.must(tick(2))
	b.must(reserve(2, 4, 3), 0)
	b.must(reserve(3, 5, 0), 0)
	b.must(reserve(4, 1, 1<<30), 0)
	b.must(tick(4))
	b.there("BOLT", "NY", 10, 10, 0)
	b.must(move(10, "LA", 1), 34, 1)
	b.must(tick(5))
	b.there("BOLT", "NY", 10, 6, 0)
	b.must(ship(5, 2, 0), 29)
	b.must(cancel(5, 2), 29)
	b.must(move(10, "LA", 4), 0, 0)
	b.must(tick(1<<30 + 1))
	b.there("BOLT", "NY", 6, 6, 0)
	b.must(tick(1<<30 + 2))
	b.there("BOLT", "NY", 6, 5, 0)
	b.must(tick(1 << 40))
	b.there("BOLT", "NY", 6, 5, 0)
	b.must(ship(5, 3, 0), 0)
	b.there("BOLT", "NY", 1, 0, 5)
	b.there("BOLT", "LA", 4, 0, 0)
}

// What has left, at its last tick, doesn't come back when its time has come.
func TestP27_2ShippedAheadOfItsEnd(t *testing.T) {
	b := bolts(t)
	b.must(receive(1, 10), 0)
	b.must(reserve(2, 4, 5), 0)
	b.must(tick(4))
	b.must(ship(3, 2, 3), 0)
	b.must(tick(5))
	b.there("BOLT", "NY", 7, 0, 3)
	b.must(ship(4, 2, 1), 27)
}

func TestP27_2Moved(t *testing.T) {
	b := bolts(t)
	b.must(opened("X"), 0, 0, 0)
	b.must(receive(1, 10), 0)
	b.must(move(2, "LA", 6), 0, 0)
	b.must(order{what: "move", id: small(4), good: "BOLT", site: "LA", to: "X", n: small(5)}, 0, 0)
	b.must(order{what: "move", id: small(6), good: "BOLT", site: "X", to: "NY", n: small(4)}, 0, 0)
	b.there("BOLT", "NY", 8, 0, 0)
	b.there("BOLT", "LA", 1, 0, 0)
	b.there("BOLT", "X", 1, 0, 0)
	b.must(order{what: "reserve", id: small(8), good: "BOLT", site: "LA", n: small(1)}, 0)
	b.must(ship(9, 8, 0), 0)
	b.there("BOLT", "LA", 0, 0, 1)
	b.must(move(2, "LA", 6), 10, 1)
	b.must(move(2, "LA", 5), 11, 1)
	b.must(move(1, "LA", 1), 11, 1)
	b.there("BOLT", "NY", 8, 0, 0)
}

// A name that is taken, by the one behind it too: nothing goes.
func TestP27_2MovedWholeOrNot(t *testing.T) {
	b := bolts(t)
	b.must(receive(11, 10), 0)
	b.must(move(10, "LA", 10), 1, 11)
	b.must(move(11, "LA", 10), 11, 1)
	b.must(order{what: "receive", id: small(21), good: "BOLT", site: "LA", n: small(10)}, 0)
	// What came to LA by the name 21 is just what would come by it now.
	b.must(move(20, "LA", 10), 1, 10)
	b.there("BOLT", "NY", 10, 0, 0)
	b.there("BOLT", "LA", 10, 0, 0)
	b.must(move(12, "LA", 0), 18, 1)
	b.must(move(0, "LA", 1), 4, 1)
	b.must(order{what: "move", id: api.Num{Hi: top, Lo: top - 1}, good: "BOLT", site: "NY", to: "LA", n: small(1)}, 1, 5)
	b.must(order{what: "move", id: api.Num{Hi: top, Lo: top - 2}, good: "BOLT", site: "NY", to: "LA", n: small(1)}, 0, 0)
	b.there("BOLT", "NY", 9, 0, 0)
	b.there("BOLT", "LA", 11, 0, 0)
}

// Orders that can't be done tell why, and change nothing.
func TestP27_2WrongOrders(t *testing.T) {
	b := bolts(t)
	b.must(receive(1, 10), 0)
	b.must(reserve(2, 4, 0), 0)
	b.must(receive(0, 1), 4)
	b.must(order{what: "receive", id: most, good: "BOLT", site: "NY", n: small(1)}, 5)
	b.must(receive(3, 0), 18)
	b.must(reserve(0, 1, 0), 4)
	b.must(reserve(3, 0, 0), 18)
	b.must(reserve(3, 1, 1<<30+1), 17)
	b.must(reserve(3, 1, 1<<32-1), 17)
	b.must(ship(0, 2, 1), 4)
	b.must(ship(3, 0, 1), 16)
	b.must(ship(3, 1, 1), 24)
	b.must(ship(3, 9, 1), 23)
	b.must(ship(2, 2, 1), 11)
	b.must(cancel(0, 2), 4)
	b.must(cancel(3, 0), 16)
	b.must(cancel(3, 1), 24)
	b.must(cancel(3, 9), 23)
	b.must(cancel(2, 2), 11)
	b.must(ship(3, 2, 5), 26)
	b.there("BOLT", "NY", 10, 4, 0)
}

// Orders that were done, asked for again, change nothing.
func TestP27_2Again(t *testing.T) {
	b := bolts(t)
	list := []order{receive(1, 10), reserve(2, 4, 5), ship(3, 2, 3), reserve(4, 2, 0), cancel(5, 4)}
	for _, o := range list {
		b.must(o, 0)
	}
	for _, o := range list {
		b.must(o, 10)
	}
	b.must(receive(1, 9), 11)
	b.must(reserve(2, 4, 6), 11)
	b.must(order{what: "receive", id: small(1), good: "BOLT", site: "LA", n: small(10)}, 11)
	b.there("BOLT", "NY", 7, 0, 3)
}

// All goods that can be, and one more.
func TestP27_2GreatNumbers(t *testing.T) {
	b := bolts(t)
	all := func(what string, id int) order {
		return order{what: what, id: small(id), good: "BOLT", site: "NY", to: "LA", n: most}
	}
	b.must(all("receive", 1), 0)
	b.must(receive(2, 1), 32)
	b.must(all("reserve", 2), 0)
	b.must(reserve(3, 1, 0), 32)
	b.must(move(3, "LA", 1), 32, 1)
	b.must(cancel(3, 2), 0)
	b.must(all("move", 4), 0, 0)
	b.there("BOLT", "NY", 0, 0, 0)
	b.must(receive(6, 1), 32)
	b.must(all("reserve", 6), 32)
	b.must(reserve(6, 1, 0), 32)
	b.must(order{what: "receive", id: small(6), good: "BOLT", site: "LA", n: small(1)}, 32)
	b.must(order{what: "reserve", id: small(6), good: "BOLT", site: "LA", n: most}, 0)
	b.must(ship(7, 6, 0), 0)
	if c, e := b.told(spot{"BOLT", "LA"}); c != (stock.Count{Shipped: most}) || e != 0 {
		t.Errorf("%+v, %d", c, e)
	}
}

// Where there is no room for one more transfer, what is held stays held till its time has come.
func TestP27_2FullBooks(t *testing.T) {
	b := bolts(t)
	b.must(receive(1, 10), 0)
	b.must(reserve(2, 4, 5), 0)
	for i := 3; i <= 95; i++ {
		b.must(receive(i, 1), 0)
	}
	b.must(move(96, "LA", 1), 1, 35)
	b.must(receive(96, 1), 0)
	b.must(receive(97, 1), 35)
	b.must(reserve(97, 1, 0), 35)
	b.must(move(97, "LA", 1), 35, 1)
	b.must(ship(97, 2, 0), 35)
	b.must(cancel(97, 2), 35)
	b.there("BOLT", "NY", 104, 4, 0)
	b.must(tick(5))
	b.there("BOLT", "NY", 104, 0, 0)
	b.must(ship(97, 2, 0), 29)
	b.must(receive(1, 10), 10)
}
