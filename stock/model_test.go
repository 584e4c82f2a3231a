package stock_test

import (
	"encoding/binary"
	"maps"
	"math/big"
	"slices"

	"bondstore/api"
	"bondstore/stock"
)

// top is the greatest number of 64 bits, and most that of 128.
const top = 1<<64 - 1

var most = api.Num{Hi: top, Lo: top}

// idOf is the name of the account of goods at a site in a state: sixteen bytes, the lowest first.
func idOf(good, site string, state byte) api.Num {
	var b [16]byte
	copy(b[:10], good)
	copy(b[10:14], site)
	b[14], b[15] = state, 1
	return api.Num{Lo: binary.LittleEndian.Uint64(b[:8]), Hi: binary.LittleEndian.Uint64(b[8:])}
}

// small is a number below 2^64.
func small(n int) api.Num { return api.Num{Lo: uint64(n)} }

func large(a api.Num) *big.Int {
	n := new(big.Int).SetUint64(a.Hi)
	return n.Lsh(n, 64).Or(n, new(big.Int).SetUint64(a.Lo))
}

// num is a number that there is.
func num(n *big.Int) api.Num {
	hi, lo := new(big.Int).DivMod(n, new(big.Int).Lsh(big.NewInt(1), 64), new(big.Int))
	return api.Num{Hi: hi.Uint64(), Lo: lo.Uint64()}
}

func plus(list ...*big.Int) *big.Int {
	sum := new(big.Int)
	for _, n := range list {
		sum.Add(sum, n)
	}
	return sum
}

func minus(a *big.Int, list ...*big.Int) *big.Int { return new(big.Int).Sub(a, plus(list...)) }

// tooMuch tells whether there is no such number.
func tooMuch(list ...*big.Int) bool { return plus(list...).BitLen() > 128 }

// spot is goods at a site.
type spot struct{ good, site string }

// What may be done to goods.
const (
	comes    = iota // to a site
	goes            // to another site
	reserves        // for somebody
	ships
	cancels
)

// deal is one thing that is done to goods, as it is asked for.
type deal struct {
	kind  int
	at    spot
	held  api.Num
	n     api.Num
	ticks int
}

// held is goods that are, or were, held.
type held struct {
	at   spot
	n    *big.Int
	due  int // 0: never
	fate api.Result
}

// waits is the fate of what is held still; the others are what is told of one who asks for what is held no more.
const waits = api.Done

// flow is how many goods came to a spot, went elsewhere, and have left.
type flow struct{ came, gone, left *big.Int }

// house is what there is, told in goods alone: what a store should tell of them.
type house struct {
	open  map[spot]flow
	holds map[api.Num]held
	asked map[api.Num]deal
	clock int
}

func newHouse() house {
	return house{map[spot]flow{}, map[api.Num]held{}, map[api.Num]deal{}, 0}
}

// behind is a copy, in which more may happen.
func (h house) behind() house {
	h.open, h.holds, h.asked = maps.Clone(h.open), maps.Clone(h.holds), maps.Clone(h.asked)
	return h
}

// holding is how many are held at a spot.
func (h house) holding(at spot) *big.Int {
	sum := new(big.Int)
	for _, x := range h.holds {
		if x.at == at && x.fate == waits {
			sum.Add(sum, x.n)
		}
	}
	return sum
}

// count is what is to be told of a spot.
func (h house) count(at spot) (stock.Count, api.Errno) {
	f, is := h.open[at]
	if !is {
		return stock.Count{}, 5
	}
	return stock.Count{OnHand: num(minus(f.came, f.gone, f.left)), Held: num(h.holding(at)), Shipped: num(f.left)}, 0
}

// opens is a spot that is opened; there is room for 32 accounts, and so for ten spots.
func (h house) opens(at spot) []api.Result {
	if _, is := h.open[at]; is {
		return []api.Result{10, 1, 1}
	}
	if len(h.open) == 10 {
		return []api.Result{1, 1, 35}
	}
	h.open[at] = flow{new(big.Int), new(big.Int), new(big.Int)}
	return []api.Result{0, 0, 0}
}

// wrong is what is wrong with a deal by itself.
func wrong(id api.Num, d deal) api.Result {
	ends := d.kind == ships || d.kind == cancels
	switch {
	case id == api.Num{}:
		return 4
	case id == most:
		return 5
	case d.ticks > 1<<30:
		return 17
	case ends && d.held == api.Num{}:
		return 16
	case !ends && d.n == api.Num{}:
		return 18
	}
	return 0
}

// one is one deal by a name: what came of it.
func (h house) one(id api.Num, d deal) api.Result {
	result := wrong(id, d)
	if was, is := h.asked[id]; is && result == 0 {
		result = 11
		if was == d {
			result = 10
		}
	}
	if result == 0 {
		result = h.done(id, d)
	}
	if result == 0 {
		h.asked[id] = d
	}
	return result
}

// done is what comes of a deal that is right by itself, and new.
func (h house) done(id api.Num, d deal) api.Result {
	switch d.kind {
	case comes:
		return h.come(d)
	case goes:
		return h.goOut(d)
	case reserves:
		return h.reserve(id, d)
	}
	return h.end(d)
}

// full tells whether there is no room for one more deal.
func (h house) full() bool { return len(h.asked) == 96 }

func (h house) come(d deal) api.Result {
	f, is := h.open[d.at]
	switch {
	case !is:
		return 19
	case h.full():
		return 35
	case tooMuch(f.came, large(d.n)):
		return 32
	}
	f.came = plus(f.came, large(d.n))
	h.open[d.at] = f
	return 0
}

// lacks is why so many can't be taken, or held; 0: they can.
func (h house) lacks(d deal) api.Result {
	f, is := h.open[d.at]
	switch {
	case !is:
		return 19
	case h.full():
		return 35
	case tooMuch(f.gone, f.left, h.holding(d.at), large(d.n)):
		return 32
	case large(d.n).Cmp(minus(f.came, f.gone, f.left, h.holding(d.at))) > 0:
		return 34
	}
	return 0
}

func (h house) goOut(d deal) api.Result {
	if result := h.lacks(d); result != 0 {
		return result
	}
	f := h.open[d.at]
	f.gone = plus(f.gone, large(d.n))
	h.open[d.at] = f
	return 0
}

func (h house) reserve(id api.Num, d deal) api.Result {
	if result := h.lacks(d); result != 0 {
		return result
	}
	x := held{at: d.at, n: large(d.n), fate: waits}
	if d.ticks > 0 {
		x.due = h.clock + d.ticks
	}
	h.holds[id] = x
	return 0
}

// end is goods that are held no more: they leave, as many as are asked for, or none does.
func (h house) end(d deal) api.Result {
	x, is := h.holds[d.held]
	_, other := h.asked[d.held]
	switch {
	case !is && other:
		return 24
	case !is:
		return 23
	case x.fate != waits:
		return x.fate
	case large(d.n).Cmp(x.n) > 0:
		return 26
	case h.full():
		return 35
	}
	x.fate = 28
	if d.kind == ships {
		x.fate = 27
		n := large(d.n)
		if n.Sign() == 0 {
			n = x.n
		}
		f := h.open[x.at]
		f.left = plus(f.left, n)
		h.open[x.at] = f
	}
	h.holds[d.held] = x
	return 0
}

// move is goods that go from site to site: both deals, or none.
func (h house) move(id, next api.Num, out, in deal) []api.Result {
	try := h.behind()
	if result := try.one(id, out); result != 0 {
		return []api.Result{result, 1}
	}
	if result := try.one(next, in); result != 0 {
		return []api.Result{1, result}
	}
	h.one(id, out)
	h.one(next, in)
	return []api.Result{0, 0}
}

// tick is the time that goes on.
func (h *house) tick(now int) {
	h.clock = max(h.clock, now)
	for id, x := range h.holds {
		if x.fate == waits && x.due > 0 && x.due <= h.clock {
			x.fate = 29
			h.holds[id] = x
		}
	}
}

// order is one thing that is asked of a house.
type order struct {
	what     string
	id, held api.Num
	good     string
	site, to string
	n        api.Num
	ticks    int
}

// request is the order as a request to a store.
func (o order) request() (api.Request, api.Errno) {
	switch o.what {
	case "open":
		return stock.Open(o.good, o.site)
	case "receive":
		return stock.Receive(o.id, o.good, o.site, o.n)
	case "reserve":
		return stock.Reserve(o.id, o.good, o.site, o.n, o.ticks)
	case "ship":
		return stock.Ship(o.id, o.held, o.n)
	case "cancel":
		return stock.Cancel(o.id, o.held)
	case "move":
		return stock.Move(o.id, o.good, o.site, o.to, o.n)
	}
	return api.Request{Op: 3, Now: o.ticks}, 0
}

// do is what comes of an order.
func (h *house) do(o order) []api.Result {
	at := spot{o.good, o.site}
	switch o.what {
	case "open":
		return h.opens(at)
	case "receive":
		return []api.Result{h.one(o.id, deal{kind: comes, at: at, n: o.n})}
	case "reserve":
		return []api.Result{h.one(o.id, deal{kind: reserves, at: at, n: o.n, ticks: o.ticks})}
	case "ship":
		return []api.Result{h.one(o.id, deal{kind: ships, held: o.held, n: o.n})}
	case "cancel":
		return []api.Result{h.one(o.id, deal{kind: cancels, held: o.held})}
	case "move":
		next := num(plus(large(o.id), big.NewInt(1)))
		return h.move(o.id, next, deal{kind: goes, at: at, n: o.n}, deal{kind: comes, at: spot{o.good, o.to}, n: o.n})
	}
	h.tick(o.ticks)
	return nil
}

// sameRequest tells whether two requests are one.
func sameRequest(a, b api.Request) bool {
	return a.Op == b.Op && a.Now == b.Now && a.Filter == b.Filter &&
		slices.Equal(a.Accounts, b.Accounts) && slices.Equal(a.Transfers, b.Transfers) && slices.Equal(a.Ids, b.Ids)
}
