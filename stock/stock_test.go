package stock_test

import (
	"math"
	"slices"
	"strings"
	"testing"

	"bondstore/api"
	"bondstore/stock"
	"bondstore/wire"
)

// The flags, as the chapters write them.
const (
	linked  = 1
	pending = 2
	post    = 4
	void    = 8
	credits = 4
)

// is holds what a call answered to what it must.
func is(t *testing.T, call string, q api.Request, e api.Errno, want api.Request, wrong api.Errno) {
	t.Helper()
	if !sameRequest(q, want) || e != wrong {
		t.Errorf("%s: %+v, %d, not %+v, %d", call, q, e, want, wrong)
	}
}

// good holds that a call answered just this request.
func good(t *testing.T, call string, q api.Request, e api.Errno, want api.Request) {
	t.Helper()
	is(t, call, q, e, want, 0)
}

// moves is a request of transfers.
func moves(list ...api.Transfer) api.Request { return api.Request{Op: 2, Transfers: list} }

// BOLT at NY and at LA: the names of their accounts.
var (
	worldNY   = api.Num{Hi: 0x01000000594e0000, Lo: 0x544c4f42}
	onHandNY  = api.Num{Hi: 0x01010000594e0000, Lo: 0x544c4f42}
	shippedNY = api.Num{Hi: 0x01020000594e0000, Lo: 0x544c4f42}
	worldLA   = api.Num{Hi: 0x01000000414c0000, Lo: 0x544c4f42}
	onHandLA  = api.Num{Hi: 0x01010000414c0000, Lo: 0x544c4f42}
)

func TestP27_1Open(t *testing.T) {
	q, e := stock.Open("BOLT", "NY")
	good(t, "Open", q, e, api.Request{Op: 1, Accounts: []api.Account{
		{Id: worldNY, Ledger: 7, Code: 1, Flags: linked},
		{Id: onHandNY, Ledger: 7, Code: 1, Flags: linked | credits},
		{Id: shippedNY, Ledger: 7, Code: 1},
	}})
}

func TestP27_1Receive(t *testing.T) {
	q, e := stock.Receive(small(5), "BOLT", "NY", small(10))
	good(t, "Receive", q, e, moves(api.Transfer{Id: small(5), Debit: onHandNY, Credit: worldNY, Amount: small(10), Ledger: 7, Code: 1}))
}

func TestP27_1Reserve(t *testing.T) {
	q, e := stock.Reserve(small(6), "BOLT", "NY", small(4), 60)
	good(t, "Reserve", q, e, moves(api.Transfer{Id: small(6), Debit: shippedNY, Credit: onHandNY, Amount: small(4), Timeout: 60, Ledger: 7, Code: 1, Flags: pending}))
}

func TestP27_1Ship(t *testing.T) {
	q, e := stock.Ship(small(7), small(6), small(3))
	good(t, "Ship", q, e, moves(api.Transfer{Id: small(7), Pending: small(6), Amount: small(3), Flags: post}))
	q, e = stock.Ship(small(7), small(6), small(0))
	good(t, "Ship of all", q, e, moves(api.Transfer{Id: small(7), Pending: small(6), Flags: post}))
}

func TestP27_1Cancel(t *testing.T) {
	q, e := stock.Cancel(small(7), small(6))
	good(t, "Cancel", q, e, moves(api.Transfer{Id: small(7), Pending: small(6), Flags: void}))
}

func TestP27_1Move(t *testing.T) {
	q, e := stock.Move(small(8), "BOLT", "NY", "LA", small(5))
	good(t, "Move", q, e, moves(
		api.Transfer{Id: small(8), Debit: worldNY, Credit: onHandNY, Amount: small(5), Ledger: 7, Code: 1, Flags: linked},
		api.Transfer{Id: small(9), Debit: onHandLA, Credit: worldLA, Amount: small(5), Ledger: 7, Code: 1},
	))
}

func TestP27_1Ask(t *testing.T) {
	q, e := stock.Ask("BOLT", "NY")
	good(t, "Ask", q, e, api.Request{Op: 4, Ids: []api.Num{onHandNY, shippedNY}})
}

// Goods and sites of all lengths and signs.
func TestP27_1Places(t *testing.T) {
	for i := range 10 {
		for _, name := range []string{"ABCDEFGHIJ"[:i+1], "0123456789"[:i+1], "KLMNOPQRST"[i:], strings.Repeat("-", i+1), strings.Repeat("Z", i+1)} {
			for j := range 4 {
				site, to := "UVWX"[:j+1], "-9YZ"[j:]
				world, onHand, shipped := idOf(name, site, 0), idOf(name, site, 1), idOf(name, site, 2)
				q, e := stock.Open(name, site)
				good(t, "Open", q, e, api.Request{Op: 1, Accounts: []api.Account{{Id: world, Ledger: 7, Code: 1, Flags: 1}, {Id: onHand, Ledger: 7, Code: 1, Flags: 5}, {Id: shipped, Ledger: 7, Code: 1}}})
				q, e = stock.Receive(small(1), name, site, small(2))
				good(t, "Receive", q, e, moves(api.Transfer{Id: small(1), Debit: onHand, Credit: world, Amount: small(2), Ledger: 7, Code: 1}))
				q, e = stock.Reserve(small(1), name, site, small(2), 3)
				good(t, "Reserve", q, e, moves(api.Transfer{Id: small(1), Debit: shipped, Credit: onHand, Amount: small(2), Timeout: 3, Ledger: 7, Code: 1, Flags: 2}))
				q, e = stock.Move(small(1), name, site, to, small(2))
				good(t, "Move", q, e, moves(
					api.Transfer{Id: small(1), Debit: world, Credit: onHand, Amount: small(2), Ledger: 7, Code: 1, Flags: 1},
					api.Transfer{Id: small(2), Debit: idOf(name, to, 1), Credit: idOf(name, to, 0), Amount: small(2), Ledger: 7, Code: 1},
				))
				q, e = stock.Ask(name, site)
				good(t, "Ask", q, e, api.Request{Op: 4, Ids: []api.Num{onHand, shipped}})
			}
		}
	}
}

// refused holds that no call takes such goods at such a site.
func refused(t *testing.T, name, site string) {
	t.Helper()
	calls := []func() (api.Request, api.Errno){
		func() (api.Request, api.Errno) { return stock.Open(name, site) },
		func() (api.Request, api.Errno) { return stock.Receive(small(1), name, site, small(2)) },
		func() (api.Request, api.Errno) { return stock.Reserve(small(1), name, site, small(2), 3) },
		func() (api.Request, api.Errno) { return stock.Move(small(1), name, site, "LA", small(2)) },
		func() (api.Request, api.Errno) { return stock.Move(small(1), name, "LA", site, small(2)) },
		func() (api.Request, api.Errno) { return stock.Move(small(1), name, site, site, small(2)) },
		func() (api.Request, api.Errno) { return stock.Move(most, name, site, "LA", small(2)) },
		func() (api.Request, api.Errno) { return stock.Ask(name, site) },
	}
	for i, call := range calls {
		q, e := call()
		if !sameRequest(q, api.Request{}) || e != 1 {
			t.Errorf("the call %d of %q at %q: %+v, %d", i, name, site, q, e)
		}
	}
}

func TestP27_1NoSuchPlaces(t *testing.T) {
	wrong := []string{"", "bolt", "BOLt", " NY", "NY ", "N Y", "A@B", "@", "A\x00", "\x00", "\u00c4", "\xff", "A_B", "A/B", "A:B", "[", "`", strings.Repeat("A", 11), strings.Repeat("A", 1<<20)}
	for _, name := range wrong {
		refused(t, name, "NY")
		refused(t, "BOLT", name)
		refused(t, name, name)
	}
	for _, site := range []string{"ABCDE", "-----", "BOLTS", "0123456789"} {
		refused(t, "BOLT", site)
	}
	for b := range 256 {
		if name := string([]byte{byte(b)}); !strings.Contains("ABCDEFGHIJKLMNOPQRSTUVWXYZ0123456789-", name) {
			refused(t, name, "NY")
			refused(t, "BOLT", "N"+name)
		}
	}
}

// numbers are such at the edges of a word, and of all.
func numbers() []api.Num {
	return []api.Num{{}, {Lo: 1}, {Lo: 2}, {Lo: 1<<63 - 1}, {Lo: 1 << 63}, {Lo: top - 1}, {Lo: top}, {Hi: 1}, {Hi: 1, Lo: 1}, {Hi: 1, Lo: top}, {Hi: 1 << 63}, {Hi: top - 1, Lo: top}, {Hi: top}, {Hi: top, Lo: top - 1}, most, worldNY}
}

// Whether a request can be done isn't asked: names, numbers and times are just told on.
func TestP27_1Numbers(t *testing.T) {
	for _, id := range numbers() {
		for _, n := range numbers() {
			q, e := stock.Receive(id, "BOLT", "NY", n)
			good(t, "Receive", q, e, moves(api.Transfer{Id: id, Debit: onHandNY, Credit: worldNY, Amount: n, Ledger: 7, Code: 1}))
			for _, ticks := range []int{0, 1, -1, 5, 1 << 30, 1<<30 + 1, 1<<32 - 1, 1 << 32, math.MaxInt, math.MinInt} {
				q, e = stock.Reserve(id, "BOLT", "NY", n, ticks)
				good(t, "Reserve", q, e, moves(api.Transfer{Id: id, Debit: shippedNY, Credit: onHandNY, Amount: n, Timeout: ticks, Ledger: 7, Code: 1, Flags: pending}))
			}
			q, e = stock.Cancel(id, n)
			good(t, "Cancel", q, e, moves(api.Transfer{Id: id, Pending: n, Flags: void}))
			for _, held := range numbers() {
				q, e = stock.Ship(id, held, n)
				good(t, "Ship", q, e, moves(api.Transfer{Id: id, Pending: held, Amount: n, Flags: post}))
			}
		}
	}
}

func TestP27_1TheNameBehind(t *testing.T) {
	for _, n := range numbers() {
		for _, x := range []struct{ id, next api.Num }{
			{api.Num{}, small(1)}, {small(1), small(2)}, {small(255), small(256)}, {api.Num{Lo: 1<<63 - 1}, api.Num{Lo: 1 << 63}}, {api.Num{Lo: top - 1}, api.Num{Lo: top}},
			{api.Num{Lo: top}, api.Num{Hi: 1}}, {api.Num{Hi: 1, Lo: top}, api.Num{Hi: 2}}, {api.Num{Hi: top}, api.Num{Hi: top, Lo: 1}},
			{api.Num{Hi: top - 1, Lo: top}, api.Num{Hi: top}}, {api.Num{Hi: top, Lo: top - 2}, api.Num{Hi: top, Lo: top - 1}}, {api.Num{Hi: top, Lo: top - 1}, most},
		} {
			q, e := stock.Move(x.id, "BOLT", "NY", "LA", n)
			good(t, "Move", q, e, moves(
				api.Transfer{Id: x.id, Debit: worldNY, Credit: onHandNY, Amount: n, Ledger: 7, Code: 1, Flags: linked},
				api.Transfer{Id: x.next, Debit: onHandLA, Credit: worldLA, Amount: n, Ledger: 7, Code: 1},
			))
		}
		q, e := stock.Move(most, "BOLT", "NY", "LA", n)
		is(t, "Move by the last name", q, e, api.Request{}, 1)
	}
}

func TestP27_1MoveToItself(t *testing.T) {
	for _, site := range []string{"NY", "LA", "A", "-", "ABCD", "0000"} {
		for _, id := range numbers() {
			q, e := stock.Move(id, "BOLT", site, strings.Clone(site), small(1))
			is(t, "Move to where it is", q, e, api.Request{}, 1)
		}
	}
	for _, x := range [][2]string{{"A", "AA"}, {"AA", "A"}, {"NY", "YN"}, {"NY", "NYC"}, {"AAAA", "AAAB"}, {"AAAA", "BAAA"}, {"0", "O"}, {"-", "--"}} {
		if q, e := stock.Move(small(1), "BOLT", x[0], x[1], small(1)); len(q.Transfers) != 2 || e != 0 {
			t.Errorf("Move from %s to %s: %+v, %d", x[0], x[1], q, e)
		}
	}
}

// found is a reply to Ask with such balances.
func found(debits, pending, credits, shipped api.Num) api.Reply {
	return api.Reply{Accounts: []api.Account{
		{Id: onHandNY, DebitsPosted: debits, CreditsPending: pending, CreditsPosted: credits, Ledger: 7, Code: 1, Flags: 4, Stamp: 2},
		{Id: shippedNY, DebitsPosted: shipped, DebitsPending: pending, Ledger: 7, Code: 1, Stamp: 3},
	}}
}

func TestP27_1Read(t *testing.T) {
	for _, x := range []struct {
		debits, credits, onHand api.Num
		wrong                   api.Errno
	}{
		{small(10), small(3), small(7), 0},
		{small(0), small(0), small(0), 0},
		{small(3), small(3), small(0), 0},
		{small(2), small(3), small(0), 5},
		{small(0), small(1), small(0), 5},
		{api.Num{Hi: 1}, small(1), api.Num{Lo: top}, 0},
		{api.Num{Hi: 1}, api.Num{Lo: top}, small(1), 0},
		{api.Num{Lo: top}, api.Num{Hi: 1}, small(0), 5},
		{api.Num{Hi: 5, Lo: 1}, api.Num{Hi: 5, Lo: 2}, small(0), 5},
		{api.Num{Hi: 5, Lo: 2}, api.Num{Hi: 5, Lo: 1}, small(1), 0},
		{most, small(0), most, 0},
		{most, most, small(0), 0},
		{most, api.Num{Hi: top, Lo: top - 1}, small(1), 0},
		{api.Num{Hi: top, Lo: top - 1}, most, small(0), 5},
		{small(0), most, small(0), 5},
	} {
		for _, held := range numbers() {
			for _, shipped := range numbers() {
				want := stock.Count{OnHand: x.onHand, Held: held, Shipped: shipped}
				if x.wrong != 0 {
					want = stock.Count{}
				}
				p := found(x.debits, held, x.credits, shipped)
				if c, e := stock.Read(p); c != want || e != x.wrong {
					t.Fatalf("Read(%+v): %+v, %d", p, c, e)
				}
			}
		}
	}
}

// Of the two accounts just these balances are told, whatever else they have.
func TestP27_1ReadOfAnyAccounts(t *testing.T) {
	a := api.Account{Id: small(1), DebitsPending: small(2), DebitsPosted: small(30), CreditsPending: small(4), CreditsPosted: small(5), Ledger: 6, Code: 7, Flags: 15, Stamp: 9}
	b := api.Account{Id: small(10), DebitsPending: small(11), DebitsPosted: small(12), CreditsPending: small(13), CreditsPosted: small(14), Ledger: -1, Code: -1, Flags: -1, Stamp: -1}
	p := api.Reply{Results: []api.Result{1, 2}, Accounts: []api.Account{a, b}, Transfers: []api.Transfer{{}}}
	if c, e := stock.Read(p); e != 0 || c != (stock.Count{OnHand: small(25), Held: small(4), Shipped: small(12)}) {
		t.Errorf("%+v, %d", c, e)
	}
	// It is the first one's balances alone that may be wrong.
	p.Accounts = []api.Account{b, a}
	if c, e := stock.Read(p); e != 5 || c != (stock.Count{}) {
		t.Errorf("%+v, %d", c, e)
	}
	b.CreditsPosted = small(12)
	p.Accounts[0] = b
	if c, e := stock.Read(p); e != 0 || c != (stock.Count{OnHand: small(0), Held: small(13), Shipped: small(30)}) {
		t.Errorf("%+v, %d", c, e)
	}
}

func TestP27_1ReadOfNone(t *testing.T) {
	two := found(small(10), small(4), small(3), small(3))
	replies := []api.Reply{{}, {Results: []api.Result{0, 0}}, {Transfers: make([]api.Transfer, 2)}}
	for n := range 20 {
		if n != 2 {
			replies = append(replies, api.Reply{Accounts: slices.Repeat(two.Accounts[:1], n)})
		}
	}
	replies = append(replies, api.Reply{Accounts: append(slices.Clone(two.Accounts), api.Account{})})
	for _, e := range []api.Errno{1, 2, 3, 4, 5, 8, 9, 60, -1, 256, math.MaxInt, math.MinInt} {
		replies = append(replies, api.Reply{Err: e}, api.Reply{Err: e, Accounts: two.Accounts})
	}
	for _, p := range replies {
		if c, e := stock.Read(p); c != (stock.Count{}) || e != 5 {
			t.Errorf("Read(%+v): %+v, %d", p, c, e)
		}
	}
	if c, e := stock.Read(two); e != 0 || c != (stock.Count{OnHand: small(7), Held: small(4), Shipped: small(3)}) {
		t.Errorf("Read: %+v, %d", c, e)
	}
}

// Lists of an answer are its own, also the room behind them, and what is handed in isn't changed.
func TestP27_1NewMemory(t *testing.T) {
	calls := []func() (api.Request, api.Errno){
		func() (api.Request, api.Errno) { return stock.Open("BOLT", "NY") },
		func() (api.Request, api.Errno) { return stock.Receive(small(1), "BOLT", "NY", small(2)) },
		func() (api.Request, api.Errno) { return stock.Reserve(small(1), "BOLT", "NY", small(2), 3) },
		func() (api.Request, api.Errno) { return stock.Ship(small(1), small(2), small(3)) },
		func() (api.Request, api.Errno) { return stock.Cancel(small(1), small(2)) },
		func() (api.Request, api.Errno) { return stock.Move(small(1), "BOLT", "NY", "LA", small(2)) },
		func() (api.Request, api.Errno) { return stock.Ask("BOLT", "NY") },
	}
	for i, call := range calls {
		a, _ := call()
		b, _ := call()
		if !sameRequest(a, b) {
			t.Errorf("the call %d answers anew", i)
		}
		clear(b.Accounts[:cap(b.Accounts)])
		clear(b.Transfers[:cap(b.Transfers)])
		clear(b.Ids[:cap(b.Ids)])
		if c, _ := call(); !sameRequest(a, c) || sameRequest(a, b) {
			t.Errorf("the call %d shares a list", i)
		}
	}
	p := found(small(10), small(4), small(3), small(3))
	stock.Read(p)
	if !slices.Equal(p.Accounts, found(small(10), small(4), small(3), small(3)).Accounts) {
		t.Errorf("Read changed it: %+v", p)
	}
}

// Each request has bytes, but one with ticks that have none.
func TestP27_1Bytes(t *testing.T) {
	var list []api.Request
	put := func(q api.Request, _ api.Errno) { list = append(list, q) }
	put(stock.Open("BOLT", "NY"))
	put(stock.Receive(small(1), "BOLT", "NY", most))
	put(stock.Reserve(small(1), "BOLT", "NY", most, 1<<32-1))
	put(stock.Ship(small(1), most, most))
	put(stock.Cancel(most, most))
	put(stock.Move(small(1), "BOLT", "NY", "LA", most))
	put(stock.Ask("BOLT", "NY"))
	for _, q := range list {
		b, e := wire.Bytes(q)
		r, wrong := wire.Read(b)
		if e != 0 || wrong != 0 || !sameRequest(q, r) {
			t.Errorf("%+v: %d, %d, %+v", q, e, wrong, r)
		}
	}
	for _, ticks := range []int{-1, 1 << 32} {
		q, e := stock.Reserve(small(1), "BOLT", "NY", small(1), ticks)
		if _, wrong := wire.Bytes(q); e != 0 || wrong != 1 {
			t.Errorf("%d ticks: %d, %d", ticks, e, wrong)
		}
	}
}
