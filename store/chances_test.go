package store_test

import (
	"math"
	"math/rand"

	"bondstore/api"
	"bondstore/wide"
)

// chances picks things at random, alike in each run.
type chances struct {
	*rand.Rand
	ids int // how many names of transfers there are
}

func newChances(seed int64, ids int) chances { return chances{rand.New(rand.NewSource(seed)), ids} }

// crash is what persists of so many writes that wait.
func (c chances) crash(n int) (uint64, int, int) {
	masks := []uint64{0, math.MaxUint64, c.Uint64(), c.Uint64() | c.Uint64(), 1<<c.Intn(n+1) - 1, math.MaxUint64 << c.Intn(n+1), 1 << c.Intn(n+1)}
	return masks[c.Intn(len(masks))], c.Intn(2*n+1) - n, []int{c.Intn(140) - 6, c.Intn(10), 118 + c.Intn(11)}[c.Intn(3)]
}

func times[T any](n int, one func() T) []T {
	var list []T
	for range n {
		list = append(list, one())
	}
	return list
}

// small is a name of one of so many, and name one of a transfer.
func (c chances) small(n int) api.Num { return wide.Of(uint64(1 + c.Intn(n))) }

func (c chances) name() api.Num { return c.small(c.ids) }

// link is the flag of one that is of one chain with the next one, now and then.
func (c chances) link() int { return c.Intn(8) / 7 }

// account is one; often it can be made.
func (c chances) account() api.Account {
	a := api.Account{Id: c.small(36), Ledger: 1 + c.Intn(9)/8, Code: 1, Flags: []int{0, 0, 0, debits, credits}[c.Intn(5)] | c.link()}
	switch c.Intn(30) {
	case 0:
		a.Flags |= 1 << c.Intn(5)
	case 1:
		a.Id = []api.Num{{}, wide.Most, {Hi: 1}}[c.Intn(3)]
	case 2:
		a.Ledger, a.Code = c.Intn(2), c.Intn(2)
	case 3:
		*[]*api.Num{&a.CreditsPending, &a.CreditsPosted, &a.DebitsPending, &a.DebitsPosted}[c.Intn(4)] = wide.Of(1)
	case 4:
		a.Stamp = c.Intn(3) - 1
	}
	return a
}

// transfer is one that ends a pending one, or not; often it can be done.
func (c chances) transfer(kept []api.Kept) api.Transfer {
	if len(kept) > 0 && c.Intn(3) == 0 {
		return c.ending(kept)
	}
	x := api.Transfer{Id: c.name(), Debit: c.small(12), Credit: c.small(12), Amount: wide.Of(uint64(c.Intn(20))), Ledger: 1, Code: 1, Flags: c.link()}
	x.Flags |= []int{0, pending, pending, debitMost, creditMost, debitMost | pending}[c.Intn(6)]
	if x.Flags&pending != 0 {
		x.Timeout = c.Intn(9)
		x.Flags |= c.Intn(8) / 7 * closeDebit * (1 + c.Intn(3))
	}
	return c.bent(x)
}

// ending is one that ends a pending one, or isn't to.
func (c chances) ending(kept []api.Kept) api.Transfer {
	held := kept[c.Intn(len(kept))].Move
	x := api.Transfer{Id: c.name(), Pending: held.Id, Flags: []int{post, void}[c.Intn(2)] | c.link(), Amount: []api.Num{{}, {}, held.Amount, wide.Of(3)}[c.Intn(4)]}
	switch c.Intn(20) {
	case 0:
		x.Pending = []api.Num{{}, c.name()}[c.Intn(2)]
	case 1:
		x.Debit, x.Credit, x.Ledger, x.Code = held.Debit, held.Credit, held.Ledger, held.Code
	case 2:
		*[]*int{&x.Ledger, &x.Code, &x.Timeout, &x.Flags}[c.Intn(4)] += c.Intn(3)
	case 3:
		*[]*api.Num{&x.Debit, &x.Credit, &x.Amount}[c.Intn(3)] = c.small(12)
	}
	return x
}

// bent is a transfer, now and then with something at an edge.
func (c chances) bent(x api.Transfer) api.Transfer {
	switch c.Intn(40) {
	case 0, 1:
		x.Amount = []api.Num{wide.Most, {Hi: 1 << 63}, {Hi: math.MaxUint64}}[c.Intn(3)]
	case 2:
		x.Flags ^= 1 << c.Intn(9)
	case 3:
		x.Id = []api.Num{{}, wide.Most, {Hi: 1}}[c.Intn(3)]
	case 4:
		*[]*api.Num{&x.Debit, &x.Credit, &x.Pending}[c.Intn(3)] = []api.Num{{}, wide.Of(1), wide.Most}[c.Intn(3)]
	case 5:
		*[]*int{&x.Ledger, &x.Code, &x.Timeout, &x.Stamp, &x.Born}[c.Intn(5)] = c.Intn(3)
	case 6:
		x.Timeout = []int{1 << 30, 1<<30 + 1}[c.Intn(2)]
	case 7:
		x.Ledger = 2
	}
	return x
}

// transfers are so many, of which some may end those ahead of them.
func (c chances) transfers(n int, kept []api.Kept) []api.Transfer {
	var list []api.Transfer
	for range n {
		x := c.transfer(kept)
		if x.Flags&pending != 0 {
			kept = append(kept[:len(kept):len(kept)], api.Kept{Move: x})
		}
		list = append(list, x)
	}
	return list
}

// request is one over books; most can be.
func (c chances) request(l ledger) api.Request {
	n := []int{1, 1, 1, 2, 3, 5, 8, 8, c.Intn(11)}[c.Intn(9)]
	q := api.Request{Op: []int{1, 1, 2, 2, 2, 2, 2, 3, 3, 4, 5, 6}[c.Intn(12)]}
	switch q.Op {
	case 1:
		q.Accounts = times(n, c.account)
	case 2:
		q.Transfers = c.transfers(n, l.kept)
	case 3:
		q.Now = l.clock + c.Intn(5) - 1
	case 4:
		q.Ids = times(c.Intn(18), func() api.Num { return c.small(40) })
	case 5:
		q.Ids = times(c.Intn(18), c.name)
	case 6:
		q.Filter = api.Filter{Account: c.small(13), From: c.Intn(9) * c.Intn(9), To: c.Intn(150) * c.Intn(2), Debits: c.Intn(4) != 0, Credits: c.Intn(4) != 0, Latest: c.Intn(2) == 0, Limit: c.Intn(18)}
	}
	return q
}

// writes is one that may change something, and that can be.
func (c chances) writes(l ledger) api.Request {
	for {
		q := c.request(l)
		if _, is := parse(bytesOf(q)); is && q.Op < 4 {
			return q
		}
	}
}

// bytes are a request's, now and then spoilt.
func (c chances) bytes(l ledger) string {
	b := []byte(bytesOf(c.request(l)))
	switch c.Intn(20) {
	case 0:
		b[c.Intn(len(b))] ^= 1 << c.Intn(8)
	case 1:
		b = b[:c.Intn(len(b)+1)]
	case 2:
		b = append(b, make([]byte, c.Intn(4))...)
	case 3:
		b[c.Intn(min(3, len(b)))] = byte(c.Intn(256))
	case 4:
		if c.Intn(4) == 0 {
			b = append(b, make([]byte, mostBytes-len(b)+c.Intn(2))...)
		}
	}
	return string(b)
}
