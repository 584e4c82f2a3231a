package store_test

import (
	"math/big"
	"slices"

	"bondstore/api"
)

// The flags of accounts and of transfers, and the fates, as the document says them.
const (
	linked      = 1
	debits      = 2
	credits     = 4
	closed      = 8
	pending     = 2
	post        = 4
	void        = 8
	debitMost   = 16
	creditMost  = 32
	closeDebit  = 64
	closeCredit = 128
	waiting     = 1
	posted      = 2
	voided      = 3
	expired     = 4
)

var mostNum = api.Num{Hi: 1<<64 - 1, Lo: 1<<64 - 1}

// value reads a number in another way than the program does; numOf goes back from one that isn't above the greatest.
func value(a api.Num) *big.Int {
	n := new(big.Int).SetUint64(a.Hi)
	return n.Lsh(n, 64).Add(n, new(big.Int).SetUint64(a.Lo))
}

func numOf(n *big.Int) api.Num {
	hi := new(big.Int).Rsh(n, 64)
	lo := new(big.Int).Sub(n, new(big.Int).Lsh(hi, 64))
	return api.Num{Hi: hi.Uint64(), Lo: lo.Uint64()}
}

func isAbove(a, b *big.Int) bool { return a.Cmp(b) > 0 }

// ledger is what the chapters say of all books, without any of the layers: it has no balances; these, and what is closed, are drawn anew from all its transfers whenever they are asked for.
type ledger struct {
	made  []api.Account
	kept  []api.Kept
	clock int
	stamp int
	seq   int // how many requests were done
}

func (l ledger) copy() ledger {
	l.made, l.kept = slices.Clone(l.made), slices.Clone(l.kept)
	return l
}

// balance is a side of an account: what waits there, and what is posted.
type balance struct{ waits, done *big.Int }

func (b balance) all() *big.Int { return new(big.Int).Add(b.waits, b.done) }

func (l *ledger) debited(id api.Num) balance {
	return l.sums(func(x api.Transfer) bool { return x.Debit == id })
}

func (l *ledger) credited(id api.Num) balance {
	return l.sums(func(x api.Transfer) bool { return x.Credit == id })
}

// sums adds up transfers. An ending one is posted as its own amount, and the pending one that it ends not at all.
func (l *ledger) sums(is func(api.Transfer) bool) balance {
	b := balance{new(big.Int), new(big.Int)}
	for _, k := range l.kept {
		switch {
		case !is(k.Move) || k.Move.Flags&void != 0:
		case k.Fate == waiting:
			b.waits.Add(b.waits, value(k.Move.Amount))
		case k.Fate == 0:
			b.done.Add(b.done, value(k.Move.Amount))
		}
	}
	return b
}

// isClosed answers whether a transfer closes an account that waits, or was posted.
func (l *ledger) isClosed(id api.Num) bool {
	return slices.ContainsFunc(l.kept, func(k api.Kept) bool {
		debit := k.Move.Flags&closeDebit != 0 && k.Move.Debit == id
		credit := k.Move.Flags&closeCredit != 0 && k.Move.Credit == id
		return (debit || credit) && (k.Fate == waiting || k.Fate == posted)
	})
}

// accounts are all, with their balances.
func (l *ledger) accounts() []api.Account {
	list := slices.Clone(l.made)
	for i := range list {
		a := &list[i]
		d, c := l.debited(a.Id), l.credited(a.Id)
		a.DebitsPending, a.DebitsPosted, a.CreditsPending, a.CreditsPosted = numOf(d.waits), numOf(d.done), numOf(c.waits), numOf(c.done)
		if l.isClosed(a.Id) {
			a.Flags |= closed
		}
	}
	return list
}

// account is the one of a name, without balances, and kept the place of a transfer.
func (l *ledger) account(id api.Num) (api.Account, bool) {
	at := slices.IndexFunc(l.made, func(a api.Account) bool { return a.Id == id })
	if at < 0 {
		return api.Account{}, false
	}
	return l.made[at], true
}

func (l *ledger) at(id api.Num) (int, bool) {
	at := slices.IndexFunc(l.kept, func(k api.Kept) bool { return k.Move.Id == id })
	return at, at >= 0
}

// asked is something that may be wrong, and the result that tells it; first is the first one of some that is.
type asked struct {
	is bool
	r  api.Result
}

func first(list ...asked) api.Result {
	for _, x := range list {
		if x.is {
			return x.r
		}
	}
	return 0
}

func within(n, least, most int) bool { return n >= least && n <= most }

// open makes an account, or tells what is wrong with it.
func (l *ledger) open(a api.Account) api.Result {
	none := api.Account{Id: a.Id, Ledger: a.Ledger, Code: a.Code, Flags: a.Flags}
	there, is := l.account(a.Id)
	same := a.Ledger == there.Ledger && a.Code == there.Code && a.Flags&6 == there.Flags&6
	r := first(
		asked{a.Flags > 7, 3}, asked{a.Id == api.Num{}, 4}, asked{a.Id == mostNum, 5}, asked{a.Flags&6 == 6, 6}, asked{a != none, 7},
		asked{!within(a.Ledger, 1, mostOf4), 8}, asked{!within(a.Code, 1, mostOf2), 9}, asked{is && same, 10}, asked{is, 11}, asked{len(l.made) == 32, 35},
	)
	if r == 0 {
		l.stamp++
		none.Stamp = l.stamp
		none.Flags &= 6
		l.made = append(l.made, none)
	}
	return r
}

// itself is what is wrong with a transfer by itself.
func itself(x api.Transfer) api.Result {
	kinds := 0
	for _, f := range []int{pending, post, void} {
		if x.Flags&f != 0 {
			kinds++
		}
	}
	ends, balances, closes := x.Flags&12 != 0, x.Flags&48 != 0, x.Flags&192 != 0
	together := kinds < 2 && !(ends && (balances || closes)) && !(closes && x.Flags&pending == 0)
	r := first(
		asked{x.Flags > 255, 3}, asked{x.Id == api.Num{}, 4}, asked{x.Id == mostNum, 5}, asked{!together, 6}, asked{x.Stamp != 0 || x.Born != 0, 7},
		asked{x.Timeout > 1<<30 || x.Timeout != 0 && x.Flags&pending == 0, 17},
	)
	if r != 0 {
		return r
	}
	none := api.Num{}
	if ends {
		return first(asked{x.Pending == none, 16})
	}
	return first(
		asked{x.Debit == none, 12}, asked{x.Credit == none, 13}, asked{x.Debit == x.Credit, 14}, asked{x.Pending != none, 15},
		asked{x.Amount == none && !balances, 18}, asked{x.Ledger == 0, 8}, asked{x.Code == 0, 9},
	)
}

// again is what is wrong with one whose name is there.
func (l *ledger) again(x api.Transfer) api.Result {
	at, is := l.at(x.Id)
	if !is {
		return 0
	}
	there := l.kept[at].Asked
	x.Flags |= linked
	there.Flags |= linked
	return first(asked{x == there, 10}, asked{true, 11})
}

// transfer does one, or tells what is wrong with it.
func (l *ledger) transfer(x api.Transfer) api.Result {
	r := itself(x)
	if r == 0 {
		r = l.again(x)
	}
	switch {
	case r != 0:
		return r
	case x.Flags&(post|void) != 0:
		return l.end(x)
	}
	return l.move(x)
}

// move does one that doesn't end another one.
func (l *ledger) move(x api.Transfer) api.Result {
	d, isDebit := l.account(x.Debit)
	c, isCredit := l.account(x.Credit)
	r := first(
		asked{!isDebit, 19}, asked{!isCredit, 20}, asked{d.Ledger != c.Ledger, 21}, asked{d.Ledger != x.Ledger, 22},
		asked{l.isClosed(x.Debit), 30}, asked{l.isClosed(x.Credit), 31}, asked{len(l.kept) == 96, 35},
	)
	if r != 0 {
		return r
	}
	debited, credited := l.debited(x.Debit), l.credited(x.Credit)
	toDebit := atLeast0(new(big.Int).Sub(l.credited(x.Debit).done, debited.all()))
	toCredit := atLeast0(new(big.Int).Sub(l.debited(x.Credit).done, credited.all()))
	n := value(x.Amount)
	if x.Flags&(debitMost|creditMost) != 0 && n.Sign() == 0 {
		n = value(mostNum)
	}
	if x.Flags&debitMost != 0 {
		n = lesser(n, toDebit)
	}
	if n.Sign() == 0 {
		return 33
	}
	if x.Flags&creditMost != 0 {
		n = lesser(n, toCredit)
	}
	if n.Sign() == 0 {
		return 34
	}
	beyond := func(b balance) bool { return isAbove(new(big.Int).Add(b.all(), n), value(mostNum)) }
	r = first(
		asked{beyond(debited), 32}, asked{d.Flags&debits != 0 && isAbove(n, toDebit), 33},
		asked{beyond(credited), 32}, asked{c.Flags&credits != 0 && isAbove(n, toCredit), 34},
	)
	if r == 0 {
		l.keep(x, x, numOf(n), x.Flags&pending/pending*waiting)
	}
	return r
}

func lesser(a, b *big.Int) *big.Int {
	if isAbove(a, b) {
		return b
	}
	return a
}

func atLeast0(n *big.Int) *big.Int {
	if n.Sign() < 0 {
		return new(big.Int)
	}
	return n
}

// keep keeps a transfer: as it was asked for, as it is done, of such an amount.
func (l *ledger) keep(asked, move api.Transfer, amount api.Num, fate int) {
	l.stamp++
	move.Amount, move.Stamp, move.Born = amount, l.stamp, l.clock
	l.kept = append(l.kept, api.Kept{Asked: asked, Move: move, Fate: fate})
}

// end does one that ends a pending one.
func (l *ledger) end(x api.Transfer) api.Result {
	at, is := l.at(x.Pending)
	if !is {
		return 23
	}
	fate, p, none := l.kept[at].Fate, l.kept[at].Move, api.Num{}
	other := x.Debit != none && x.Debit != p.Debit || x.Credit != none && x.Credit != p.Credit || x.Ledger != 0 && x.Ledger != p.Ledger || x.Code != 0 && x.Code != p.Code
	more := value(x.Amount).Cmp(value(p.Amount))
	r := first(
		asked{fate == 0, 24}, asked{other, 25}, asked{fate == posted, 27}, asked{fate == voided, 28}, asked{fate == expired, 29},
		asked{x.Amount != none && (more > 0 || x.Flags&void != 0 && more < 0), 26},
		asked{x.Flags&post != 0 && p.Flags&closeDebit == 0 && l.isClosed(p.Debit), 30},
		asked{x.Flags&post != 0 && p.Flags&closeCredit == 0 && l.isClosed(p.Credit), 31},
		asked{len(l.kept) == 96, 35},
	)
	if r != 0 {
		return r
	}
	l.kept[at].Fate = posted
	if x.Flags&void != 0 {
		l.kept[at].Fate = voided
	}
	move := x
	move.Debit, move.Credit, move.Ledger, move.Code = p.Debit, p.Credit, p.Ledger, p.Code
	amount := x.Amount
	if amount == none {
		amount = p.Amount
	}
	l.keep(x, move, amount, 0)
	return 0
}

// time lets all expire that has its time behind it.
func (l *ledger) time(now int) {
	l.clock = max(l.clock, now)
	for i, k := range l.kept {
		if k.Fate == waiting && k.Move.Timeout != 0 && k.Move.Born+k.Move.Timeout <= l.clock {
			l.kept[i].Fate = expired
		}
	}
}

// batch does items chain by chain, each in a copy that is thrown away if one of the chain fails, and answers what came of each.
func batch[T any](l *ledger, items []T, isLinked func(T) bool, do func(*ledger, T) api.Result) []api.Result {
	if len(items) == 0 {
		return nil
	}
	end := slices.IndexFunc(items, func(x T) bool { return !isLinked(x) })
	if end < 0 {
		return append(slices.Repeat([]api.Result{1}, len(items)-1), 2)
	}
	results, tried := make([]api.Result, end+1), l.copy()
	for i := range results {
		if r := do(&tried, items[i]); r != 0 {
			results = slices.Repeat([]api.Result{1}, end+1)
			results[i] = r
			tried = *l
			break
		}
	}
	*l = tried
	return append(results, batch(l, items[end+1:], isLinked, do)...)
}

func accountLinked(a api.Account) bool { return a.Flags&linked != 0 }

func transferLinked(x api.Transfer) bool { return x.Flags&linked != 0 }

// do does a request that can be, and answers its reply.
func (l *ledger) do(q api.Request) api.Reply {
	if q.Op < 4 {
		l.seq++
	}
	switch q.Op {
	case 1:
		return api.Reply{Results: batch(l, q.Accounts, accountLinked, (*ledger).open)}
	case 2:
		return api.Reply{Results: batch(l, q.Transfers, transferLinked, (*ledger).transfer)}
	case 3:
		l.time(q.Now)
		return api.Reply{}
	case 4:
		return api.Reply{Accounts: l.find(q.Ids)}
	case 5:
		return api.Reply{Transfers: l.moved(q.Ids)}
	}
	return api.Reply{Transfers: l.of(q.Filter)}
}

// reply is what bytes are answered without crashes and disk errors.
func (l *ledger) reply(b string) api.Reply {
	if len(b) > mostBytes {
		return api.Reply{Err: 3}
	}
	q, is := parse(b)
	if !is {
		return api.Reply{Err: 4}
	}
	return l.do(q)
}

// find, moved and of are what is asked for.
func (l *ledger) find(ids []api.Num) []api.Account {
	var list []api.Account
	for _, id := range ids {
		for _, a := range l.accounts() {
			if a.Id == id {
				list = append(list, a)
			}
		}
	}
	return list
}

func (l *ledger) moved(ids []api.Num) []api.Transfer {
	var list []api.Transfer
	for _, id := range ids {
		if at, is := l.at(id); is {
			list = append(list, l.kept[at].Move)
		}
	}
	return list
}

func (l *ledger) of(f api.Filter) []api.Transfer {
	var list []api.Transfer
	for _, k := range l.kept {
		x := k.Move
		if x.Stamp < f.From || f.To != 0 && x.Stamp > f.To {
			continue
		}
		if f.Debits && x.Debit == f.Account || f.Credits && x.Credit == f.Account {
			list = append(list, x)
		}
	}
	if f.Latest {
		slices.Reverse(list)
	}
	return list[:min(f.Limit, len(list))]
}
