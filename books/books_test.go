package books_test

import (
	"cmp"
	"math"
	"math/rand"
	"runtime"
	"slices"
	"testing"

	"bondstore/api"
	"bondstore/books"
	"bondstore/wide"
)

// numbers are times, stamps, marks and fates at which a sign, a bit or a limit turns.
func numbers() []int {
	list := []int{0, 3, -3, 5, math.MaxInt, math.MaxInt - 1, math.MinInt, math.MinInt + 1, api.MaxTicks - 1, api.MaxTicks, api.MaxTicks + 1}
	for bit := range 63 {
		list = append(list, 1<<bit, -1<<bit)
	}
	return list
}

// names are those of accounts and transfers that tests ask for: some of few bits, and the edges.
func names() []api.Num {
	list := []api.Num{wide.Most, {Hi: 1}, {Hi: 1 << 63}, {Hi: math.MaxUint64, Lo: math.MaxUint64 - 1}, {Lo: math.MaxUint64}}
	for n := range uint64(10) {
		list = append(list, wide.Of(n))
	}
	return list
}

// model is a state, read otherwise than by indexes and a log: all is looked for in lists, and a mark is how they stood.
type model struct {
	accounts []api.Account
	kept     []api.Kept
	clock    int
	stamp    int
}

func (m *model) copy() model {
	c := *m
	c.accounts, c.kept = slices.Clone(m.accounts), slices.Clone(m.kept)
	return c
}

func (m *model) account(id api.Num) int {
	return slices.IndexFunc(m.accounts, func(a api.Account) bool { return a.Id == id })
}

func (m *model) transfer(id api.Num) int {
	return slices.IndexFunc(m.kept, func(k api.Kept) bool { return k.Move.Id == id })
}

func (m *model) open(a api.Account) api.Errno {
	if len(m.accounts) >= 32 {
		return api.ErrFull
	}
	if m.account(a.Id) >= 0 {
		return api.ErrArg
	}
	m.stamp++
	a.Stamp = m.stamp
	m.accounts = append(m.accounts, a)
	return api.OK
}

func (m *model) turn(a api.Account) api.Errno {
	i := m.account(a.Id)
	if i < 0 {
		return api.ErrNone
	}
	a.Stamp = m.accounts[i].Stamp
	m.accounts[i] = a
	return api.OK
}

func (m *model) keep(asked, move api.Transfer, waits bool) api.Errno {
	if len(m.kept) >= 96 {
		return api.ErrFull
	}
	if m.transfer(move.Id) >= 0 {
		return api.ErrArg
	}
	m.stamp++
	move.Stamp, move.Born = m.stamp, m.clock
	k := api.Kept{Asked: asked, Move: move}
	if waits {
		k.Fate = 1
	}
	m.kept = append(m.kept, k)
	return api.OK
}

func (m *model) end(id api.Num, fate int) api.Errno {
	i := m.transfer(id)
	if i < 0 || m.kept[i].Fate != 1 {
		return api.ErrNone
	}
	if fate < 2 || fate > 4 {
		return api.ErrArg
	}
	m.kept[i].Fate = fate
	return api.OK
}

func (m *model) time(now int) {
	if now > m.clock && now <= 1<<40 {
		m.clock = now
	}
}

// due looks through the transfers by their stamps, so that the first one of a time is that of the lowest stamp.
func (m *model) due() (api.Kept, bool) {
	var first api.Kept
	found := false
	for _, k := range m.between(math.MinInt, 0, false) {
		ends := k.Move.Born + k.Move.Timeout
		if k.Fate != 1 || k.Move.Timeout == 0 || ends > m.clock {
			continue
		}
		if !found || ends < first.Move.Born+first.Move.Timeout {
			first, found = k, true
		}
	}
	return first, found
}

func (m *model) between(from, to int, latest bool) []api.Kept {
	var list []api.Kept
	for _, k := range m.kept {
		if k.Move.Stamp >= from && (to == 0 || k.Move.Stamp <= to) {
			list = append(list, k)
		}
	}
	slices.SortStableFunc(list, func(a, b api.Kept) int { return cmp.Compare(a.Move.Stamp, b.Move.Stamp) })
	if latest {
		slices.Reverse(list)
	}
	return list
}

// told is a mark, and how the state was when it was told.
type told struct {
	mark int
	was  model
}

// both is a state, and what it should be; and the marks that may still be gone back to.
type both struct {
	t     *testing.T
	s     *books.State
	model model
	marks []told
}

func newBoth(t *testing.T) *both { return &both{t: t, s: books.New()} }

// loaded is a both of a state that was loaded from these parts.
func loaded(t *testing.T, m model) *both {
	t.Helper()
	s, err := books.Load(m.accounts, m.kept, m.clock, m.stamp)
	if err != api.OK || s == nil {
		t.Fatalf("Load: %d of %+v", err, m)
	}
	return &both{t: t, s: s, model: m.copy()}
}

func (b *both) open(a api.Account) {
	b.t.Helper()
	if got, want := b.s.Open(a), b.model.open(a); got != want {
		b.t.Fatalf("Open(%v): %d, not %d", a.Id, got, want)
	}
}

func (b *both) turn(a api.Account) {
	b.t.Helper()
	if got, want := b.s.Turn(a), b.model.turn(a); got != want {
		b.t.Fatalf("Turn(%v): %d, not %d", a.Id, got, want)
	}
}

func (b *both) keep(asked, move api.Transfer, waits bool) {
	b.t.Helper()
	if got, want := b.s.Keep(asked, move, waits), b.model.keep(asked, move, waits); got != want {
		b.t.Fatalf("Keep(%v): %d, not %d", move.Id, got, want)
	}
}

// wait keeps a transfer that waits.
func (b *both) wait(id uint64, timeout int) {
	b.t.Helper()
	b.keep(api.Transfer{}, api.Transfer{Id: wide.Of(id), Timeout: timeout}, true)
}

func (b *both) end(id api.Num, fate int) {
	b.t.Helper()
	if got, want := b.s.End(id, fate), b.model.end(id, fate); got != want {
		b.t.Fatalf("End(%v, %d): %d, not %d", id, fate, got, want)
	}
}

func (b *both) time(now int) {
	b.s.Time(now)
	b.model.time(now)
}

func (b *both) mark() { b.marks = append(b.marks, told{b.s.Mark(), b.model.copy()}) }

// back goes back to one of the marks: those behind it don't hold any more.
func (b *both) back(which int) {
	b.s.Back(b.marks[which].mark)
	b.model = b.marks[which].was.copy()
	b.marks = b.marks[:which+1]
}

func (b *both) clear() {
	b.s.Clear()
	b.marks = nil
}

// asks asks for all that can be asked.
func (b *both) asks() {
	b.t.Helper()
	b.asksFew()
	for _, id := range names() {
		b.asksFor(id)
	}
	ends := []int{math.MinInt, 0, 1, b.model.stamp - 1, b.model.stamp, b.model.stamp + 1}
	for _, k := range b.model.kept[:min(len(b.model.kept), 3)] {
		ends = append(ends, k.Move.Stamp)
	}
	for _, from := range ends {
		for _, to := range ends {
			b.asksBetween(from, to)
		}
	}
}

// asksFew asks for all but names and stamps.
func (b *both) asksFew() {
	b.t.Helper()
	m := &b.model
	if b.s.Clock() != m.clock || b.s.Stamp() != m.stamp || b.s.Room() != (len(m.kept) < 96) {
		b.t.Fatalf("Clock %d, Stamp %d, Room %v, not %d, %d of %d", b.s.Clock(), b.s.Stamp(), b.s.Room(), m.clock, m.stamp, len(m.kept))
	}
	if got := b.s.Accounts(); !slices.Equal(got, m.accounts) {
		b.t.Fatalf("Accounts: %+v, not %+v", got, m.accounts)
	}
	if got := b.s.Keeps(); !slices.Equal(got, m.kept) {
		b.t.Fatalf("Keeps: %+v, not %+v", got, m.kept)
	}
	got, is := b.s.Due()
	if want, should := m.due(); got != want || is != should {
		b.t.Fatalf("Due: %+v, %v, not %+v, %v", got, is, want, should)
	}
	b.asksBetween(0, 0)
}

func (b *both) asksFor(id api.Num) {
	b.t.Helper()
	var wantAccount api.Account
	i := b.model.account(id)
	if i >= 0 {
		wantAccount = b.model.accounts[i]
	}
	if got, is := b.s.Account(id); got != wantAccount || is != (i >= 0) {
		b.t.Fatalf("Account(%v): %+v, %v, not %+v", id, got, is, wantAccount)
	}
	var wantKept api.Kept
	i = b.model.transfer(id)
	if i >= 0 {
		wantKept = b.model.kept[i]
	}
	if got, is := b.s.Kept(id); got != wantKept || is != (i >= 0) {
		b.t.Fatalf("Kept(%v): %+v, %v, not %+v", id, got, is, wantKept)
	}
}

func (b *both) asksBetween(from, to int) {
	b.t.Helper()
	for _, latest := range []bool{false, true} {
		got, want := b.s.Between(from, to, latest), b.model.between(from, to, latest)
		if !slices.Equal(got, want) {
			b.t.Fatalf("Between(%d, %d, %v): %+v, not %+v", from, to, latest, got, want)
		}
	}
}

// account and transfer have something in each field, that hangs on a number.
func account(id api.Num, n int) api.Account {
	u := uint64(n)
	return api.Account{
		Id: id, DebitsPending: api.Num{Hi: u, Lo: 1}, DebitsPosted: api.Num{Hi: u, Lo: 2},
		CreditsPending: api.Num{Hi: u, Lo: 3}, CreditsPosted: api.Num{Hi: u, Lo: 4},
		Ledger: n + 5, Code: n + 6, Flags: n + 7, Stamp: n + 1000,
	}
}

func transfer(id api.Num, n int) api.Transfer {
	u := uint64(n)
	return api.Transfer{
		Id: id, Debit: api.Num{Hi: u, Lo: 1}, Credit: api.Num{Hi: u, Lo: 2}, Amount: api.Num{Hi: u, Lo: 3}, Pending: api.Num{Hi: u, Lo: 4},
		Timeout: n, Ledger: n + 5, Code: n + 6, Flags: n + 7, Stamp: n + 1000, Born: n + 2000,
	}
}

func TestP15_1EmptyState(t *testing.T) {
	b := newBoth(t)
	b.asks()
	for _, id := range names() {
		b.turn(account(id, 1))
		for _, fate := range numbers() {
			b.end(id, fate)
		}
	}
	for _, n := range numbers() {
		b.s.Back(n)
		b.s.Clear()
	}
	b.asks()
	if b.s.Stamp() != 0 || b.s.Clock() != 0 || !b.s.Room() || len(b.s.Accounts()) != 0 || len(b.s.Keeps()) != 0 {
		t.Error("it isn't empty")
	}
}

func TestP15_1NilState(t *testing.T) {
	var s *books.State
	for range 2 {
		for _, id := range names() {
			a, isA := s.Account(id)
			k, isK := s.Kept(id)
			if isA || isK || a != (api.Account{}) || k != (api.Kept{}) {
				t.Errorf("it has %v", id)
			}
			if s.Open(api.Account{Id: id}) != api.ErrNil || s.Turn(api.Account{Id: id}) != api.ErrNil || s.Keep(api.Transfer{Id: id}, api.Transfer{Id: id}, true) != api.ErrNil {
				t.Errorf("%v is put into it", id)
			}
		}
		for _, n := range numbers() {
			s.Time(n)
			s.Back(n)
			if err := s.End(api.Num{}, n); err != api.ErrNil {
				t.Errorf("End: %d", err)
			}
			if len(s.Between(n, 0, true)) != 0 || len(s.Between(0, n, false)) != 0 {
				t.Error("Between")
			}
		}
		s.Clear()
		k, is := s.Due()
		if is || k != (api.Kept{}) || s.Mark() != 0 || s.Room() || s.Clock() != 0 || s.Stamp() != 0 || len(s.Accounts()) != 0 || len(s.Keeps()) != 0 {
			t.Error("it isn't nil any more")
		}
	}
}

// TestP15_1Open opens accounts of each name: each is there as it was handed in, but its stamp is the next one.
func TestP15_1Open(t *testing.T) {
	b := newBoth(t)
	for i, id := range names() {
		a := account(id, i)
		b.open(a)
		got, is := b.s.Account(id)
		a.Stamp = i + 1
		if got != a || !is || b.s.Stamp() != i+1 {
			t.Errorf("%+v, %v, not %+v", got, is, a)
		}
		b.open(account(id, i+100))
		b.asks()
	}
}

// TestP15_1OpenFull opens as many as there may be: one more is refused, whether its name is there or not.
func TestP15_1OpenFull(t *testing.T) {
	b := newBoth(t)
	for i := range api.MaxAccounts {
		if err := b.s.Open(account(wide.Of(0), 0)); i > 0 && err != api.ErrArg {
			t.Errorf("of %d: %d", i, err)
		} else if i == 0 {
			b.model.open(account(wide.Of(0), 0))
			continue
		}
		b.open(account(wide.Of(uint64(i)), i))
	}
	for _, id := range append(names(), wide.Of(31), wide.Of(32), wide.Of(33)) {
		if err := b.s.Open(account(id, 1)); err != api.ErrFull {
			t.Errorf("%v: %d", id, err)
		}
	}
	b.asks()
	if b.s.Stamp() != 32 || len(b.s.Accounts()) != 32 {
		t.Errorf("%d accounts, stamp %d", len(b.s.Accounts()), b.s.Stamp())
	}
	b.turn(account(wide.Of(31), 99))
	b.keep(api.Transfer{}, transfer(wide.Of(1), 1), true)
	b.asks()
}

func TestP15_1Turn(t *testing.T) {
	b := newBoth(t)
	for i, id := range names() {
		b.turn(account(id, i))
		b.open(account(id, i))
		b.asksFor(id)
	}
	for i, id := range names() {
		for n := range 3 {
			a := account(id, 50*n+i)
			b.turn(a)
			got, _ := b.s.Account(id)
			a.Stamp = i + 1
			if got != a {
				t.Errorf("%+v, not %+v", got, a)
			}
		}
		b.turn(api.Account{Id: id})
		b.asks()
	}
	b.turn(api.Account{Id: wide.Of(77)})
	b.asks()
}

// TestP15_1Keep keeps transfers of each name: each as it was asked for, with what it bore there, and as it is done, with its stamp and the time.
func TestP15_1Keep(t *testing.T) {
	b := newBoth(t)
	for i, id := range names() {
		b.time(7 * i)
		asked, move := transfer(wide.Of(uint64(i%2)), i+300), transfer(id, i)
		waits := i%2 == 0
		b.keep(asked, move, waits)
		want := api.Kept{Asked: asked, Move: move}
		want.Move.Stamp, want.Move.Born = i+1, 7*i
		if waits {
			want.Fate = api.Waiting
		}
		if got, is := b.s.Kept(id); got != want || !is || b.s.Stamp() != i+1 {
			t.Errorf("%+v, %v, not %+v", got, is, want)
		}
		b.keep(transfer(wide.Of(555), 1), move, !waits)
		b.asks()
	}
}

// TestP15_1KeepFull keeps as many as there may be: one more is refused, whether its name is there or not, and ends make no room.
func TestP15_1KeepFull(t *testing.T) {
	b := newBoth(t)
	for i := range api.MaxTransfers {
		if !b.s.Room() {
			t.Errorf("no room for %d", i)
		}
		b.keep(api.Transfer{}, transfer(wide.Of(uint64(i)), i), i%3 > 0)
		b.keep(api.Transfer{}, transfer(wide.Of(uint64(i/2)), i), true)
	}
	refused := func() {
		t.Helper()
		if b.s.Room() {
			t.Error("there is room")
		}
		for _, id := range append(names(), wide.Of(95), wide.Of(96), wide.Of(97)) {
			if err := b.s.Keep(transfer(id, 1), transfer(id, 1), true); err != api.ErrFull {
				t.Errorf("%v: %d", id, err)
			}
		}
		b.asks()
	}
	refused()
	b.end(wide.Of(1), api.Posted)
	b.end(wide.Of(2), api.Expired)
	refused()
	if b.s.Stamp() != 96 || len(b.s.Keeps()) != 96 || len(b.s.Between(1, 96, false)) != 96 {
		t.Errorf("%d transfers, stamp %d", len(b.s.Keeps()), b.s.Stamp())
	}
	b.open(account(wide.Of(1), 1))
	b.asks()
}

// TestP15_1NamesOfEach has an account and a transfer of each name: neither is in the other one's way, nor is the name that a transfer was asked for by.
func TestP15_1NamesOfEach(t *testing.T) {
	b := newBoth(t)
	for i, id := range names() {
		b.open(account(id, i))
		b.asksFor(id)
		b.keep(transfer(wide.Of(1), 1), transfer(id, i), true)
		b.asksFor(id)
	}
	b.asks()
	if len(b.s.Accounts()) != len(names()) || len(b.s.Keeps()) != len(names()) || b.s.Stamp() != 2*len(names()) {
		t.Errorf("stamp %d", b.s.Stamp())
	}
}

// TestP15_1End ends transfers of each fate by each number: just one that waits ends, by three numbers, and then never again.
func TestP15_1End(t *testing.T) {
	for _, fate := range append(numbers(), 1, 2, 3, 4, 5, 6, -1) {
		for _, before := range []int{0, api.Waiting, api.Posted, api.Voided, api.Expired} {
			m := model{stamp: 2, kept: []api.Kept{
				{Move: api.Transfer{Id: wide.Of(4), Stamp: 1, Timeout: 3}, Fate: before},
				{Move: api.Transfer{Id: wide.Of(5), Stamp: 2, Timeout: 2}, Fate: api.Waiting},
			}}
			b := loaded(t, m)
			b.time(3)
			want := api.OK
			if before != api.Waiting {
				want = api.ErrNone
			} else if fate < 2 || fate > 4 {
				want = api.ErrArg
			}
			b.model.end(wide.Of(4), fate)
			if got := b.s.End(wide.Of(4), fate); got != want {
				t.Errorf("of fate %d End by %d: %d, not %d", before, fate, got, want)
			}
			b.asks()
			b.end(wide.Of(6), fate)
			for _, again := range []int{0, 1, 2, 3, 4, 5} {
				if k, _ := b.s.Kept(wide.Of(4)); k.Fate != api.Waiting {
					b.end(wide.Of(4), again)
				}
			}
			b.asks()
		}
	}
}

func TestP15_1Time(t *testing.T) {
	for _, first := range numbers() {
		b := newBoth(t)
		b.time(first)
		b.asksFew()
		for _, now := range numbers() {
			b.time(now)
			b.asksFew()
		}
		if b.s.Clock() != api.MaxTicks {
			t.Errorf("the clock is %d", b.s.Clock())
		}
		b.keep(api.Transfer{}, transfer(wide.Of(1), 5), true)
		b.asks()
	}
}

// TestP15_1DueAtItsTime has one that waits: it is due from its Born and Timeout on, and as long as it waits.
func TestP15_1DueAtItsTime(t *testing.T) {
	for _, born := range []int{0, 1, 5, 100, api.MaxTicks - 10} {
		for _, timeout := range []int{1, 2, 5, 9, 10, -1, -5, math.MinInt} {
			b := newBoth(t)
			b.time(born)
			b.wait(7, timeout)
			for now := born; now <= born+10; now++ {
				b.time(now)
				b.asksFew()
				if k, is := b.s.Due(); is != (now >= born+timeout) || is && k.Move.Id != wide.Of(7) {
					t.Errorf("born %d, timeout %d, now %d: %v", born, timeout, now, is)
				}
			}
			b.end(wide.Of(7), api.Posted)
			b.asks()
			if _, is := b.s.Due(); is {
				t.Error("it doesn't wait any more")
			}
		}
	}
}

// TestP15_1DueOfSome has one by one transfers that aren't due for one reason: no timeout, not waiting, an end that isn't reached.
func TestP15_1DueOfSome(t *testing.T) {
	b := newBoth(t)
	b.wait(1, 0)
	b.keep(api.Transfer{Timeout: 3}, api.Transfer{Id: wide.Of(2), Timeout: 3}, false)
	b.keep(api.Transfer{Timeout: 3}, api.Transfer{Id: wide.Of(3)}, true)
	b.keep(api.Transfer{Id: wide.Of(3)}, api.Transfer{Id: wide.Of(4), Timeout: 50}, true)
	for now := range 50 {
		b.time(now)
		b.asksFew()
		if k, is := b.s.Due(); is {
			t.Errorf("at %d: %+v", now, k)
		}
	}
	b.time(50)
	if k, is := b.s.Due(); !is || k.Move.Id != wide.Of(4) {
		t.Errorf("%+v, %v", k, is)
	}
	b.time(api.MaxTicks)
	b.end(wide.Of(4), api.Expired)
	b.asks()
	if _, is := b.s.Due(); is {
		t.Error("one of no timeout never is")
	}
}

// TestP15_1DueFirst has some that end in one order or another: due is the first one, of one time that of the lowest stamp; as each ends the next one is.
func TestP15_1DueFirst(t *testing.T) {
	for code := range 4 * 4 * 4 * 4 {
		b := newBoth(t)
		for i := range uint64(4) {
			b.wait(9-i, code>>(2*i)%4+1)
		}
		for range 5 {
			b.time(b.s.Clock() + 1)
			b.asksFew()
			for {
				k, is := b.s.Due()
				if !is {
					break
				}
				b.end(k.Move.Id, api.Expired)
				b.asksFew()
			}
		}
		for _, k := range b.s.Keeps() {
			if k.Fate != api.Expired {
				t.Errorf("%d: %+v", code, k)
			}
		}
	}
}

// TestP15_1DueGoesRound has ends beyond 64 bits: they go round, and such a one is due at once.
func TestP15_1DueGoesRound(t *testing.T) {
	b := newBoth(t)
	b.wait(1, math.MaxInt)
	b.asks()
	if _, is := b.s.Due(); is {
		t.Error("it ends at the greatest number")
	}
	b.time(1)
	b.wait(2, math.MaxInt)
	b.wait(3, -5)
	b.wait(4, math.MinInt)
	b.asks()
	if k, is := b.s.Due(); !is || k.Move.Id != wide.Of(2) {
		t.Errorf("%+v, %v", k, is)
	}
	b.end(wide.Of(2), api.Voided)
	b.asks()
	b.end(wide.Of(4), api.Voided)
	b.asks()
	if k, is := b.s.Due(); !is || k.Move.Id != wide.Of(3) {
		t.Errorf("%+v, %v", k, is)
	}
}

func TestP15_1Between(t *testing.T) {
	b := newBoth(t)
	for i, id := range names() {
		b.keep(transfer(id, 1), transfer(id, i), i%2 == 0)
		b.open(account(id, i))
	}
	for _, from := range append(numbers(), 5, 6, 7, 28, 29, 30, 31) {
		for _, to := range append(numbers(), 5, 6, 7, 28, 29, 30, 31) {
			b.asksBetween(from, to)
		}
	}
	if l := b.s.Between(3, 7, true); len(l) != 3 || l[0].Move.Stamp != 7 || l[2].Move.Stamp != 3 {
		t.Errorf("%+v", l)
	}
	if l := b.s.Between(29, 0, false); len(l) != 1 {
		t.Errorf("%+v", l)
	}
	if l := b.s.Between(7, 6, false); len(l) != 0 {
		t.Errorf("%+v", l)
	}
}

// TestP15_1LoadNothing loads the parts of an empty state, nil and empty.
func TestP15_1LoadNothing(t *testing.T) {
	for _, m := range []model{{}, {accounts: []api.Account{}, kept: []api.Kept{}}, {clock: api.MaxTicks, stamp: api.MaxTicks}, {clock: 1}, {stamp: 1}} {
		b := loaded(t, m)
		b.asks()
		b.open(account(wide.Of(1), 1))
		b.wait(1, 5)
		b.time(m.clock + 5)
		b.asks()
	}
}

// refusedLoad loads parts that are wrong: there is no state.
func refusedLoad(t *testing.T, m model) {
	t.Helper()
	if s, err := books.Load(m.accounts, m.kept, m.clock, m.stamp); err != api.ErrArg || s != nil {
		t.Errorf("%v, %d of %+v", s, err, m)
	}
}

func TestP15_1LoadTimes(t *testing.T) {
	for _, n := range numbers() {
		clock, stamp := model{clock: n, stamp: 5}, model{clock: 5, stamp: n}
		if n < 0 || n > 1<<40 {
			refusedLoad(t, clock)
			refusedLoad(t, stamp)
			continue
		}
		loaded(t, clock).asksFew()
		loaded(t, stamp).asksFew()
	}
}

// full answers a model of as many accounts and transfers as there may be, and some more.
func full(more int) model {
	m := model{clock: 10, stamp: 128}
	for i := range api.MaxAccounts + more {
		a := account(wide.Of(uint64(i)), i)
		a.Stamp = i + 1
		m.accounts = append(m.accounts, a)
	}
	for i := range api.MaxTransfers + more {
		move := transfer(wide.Of(uint64(i)), i%13)
		move.Stamp, move.Born = i+33, i%7
		m.kept = append(m.kept, api.Kept{Asked: transfer(wide.Of(3), i), Move: move, Fate: i % 5})
	}
	return m
}

func TestP15_1LoadFull(t *testing.T) {
	b := loaded(t, full(0))
	b.asks()
	b.open(account(wide.Most, 1))
	b.keep(api.Transfer{}, transfer(wide.Most, 1), true)
	for {
		k, is := b.s.Due()
		if !is {
			break
		}
		b.end(k.Move.Id, api.Expired)
		b.asks()
	}
	for _, more := range []int{1, 2, 100} {
		much := full(more)
		much.kept = much.kept[:api.MaxTransfers]
		refusedLoad(t, much)
		much = full(more)
		much.accounts = much.accounts[:api.MaxAccounts]
		refusedLoad(t, much)
		much.accounts = nil
		refusedLoad(t, much)
	}
}

// TestP15_1LoadTwice has one name, or one stamp, at each two places: of accounts just the name mustn't be that of another one.
func TestP15_1LoadTwice(t *testing.T) {
	for i := range 6 {
		for j := range i {
			m := full(0)
			m.accounts, m.kept = m.accounts[:6], m.kept[:6]
			m.accounts[i].Stamp = m.accounts[j].Stamp
			m.kept[i].Move.Born = m.kept[j].Move.Born
			m.kept[i].Asked = m.kept[j].Asked
			m.kept[j].Move.Stamp = m.accounts[j].Stamp
			loaded(t, m).asks()
			wrong := m.copy()
			wrong.accounts[i].Id = wrong.accounts[j].Id
			refusedLoad(t, wrong)
			wrong = m.copy()
			wrong.kept[i].Move.Id = wrong.kept[j].Move.Id
			refusedLoad(t, wrong)
			wrong = m.copy()
			wrong.kept[i].Move.Stamp = wrong.kept[j].Move.Stamp
			refusedLoad(t, wrong)
			for _, stamp := range []int{0, -5, math.MaxInt, math.MinInt} {
				wrong.kept[i].Move.Stamp, wrong.kept[j].Move.Stamp = stamp, stamp
				refusedLoad(t, wrong)
			}
		}
	}
}

func TestP15_1LoadFates(t *testing.T) {
	for _, fate := range append(numbers(), -1, 1, 2, 3, 4, 5, 6) {
		for at := range 3 {
			m := full(0)
			m.kept = m.kept[:3]
			m.kept[at].Fate = fate
			if fate < 0 || fate > 4 {
				refusedLoad(t, m)
				continue
			}
			loaded(t, m).asks()
		}
	}
}

// TestP15_1LoadAnyStamps loads transfers in no order, of any stamps, births and timeouts: they are told in the order in which they came, and those between two stamps rising.
func TestP15_1LoadAnyStamps(t *testing.T) {
	chance := rand.New(rand.NewSource(1))
	stamps := numbers()
	for range 100 {
		m := model{clock: chance.Intn(20), stamp: chance.Intn(9)}
		chance.Shuffle(len(stamps), func(i, j int) { stamps[i], stamps[j] = stamps[j], stamps[i] })
		seen := map[int]bool{}
		for i, stamp := range stamps[:chance.Intn(12)] {
			if seen[stamp] {
				continue
			}
			seen[stamp] = true
			k := api.Kept{Move: transfer(wide.Of(uint64(i)), stamps[20+i]), Fate: min(i%6, 1)}
			k.Move.Stamp, k.Move.Born = stamp, stamps[60+i]
			m.kept = append(m.kept, k)
		}
		b := loaded(t, m)
		b.asks()
		for i := range uint64(5) {
			b.wait(100+i, 3)
			b.time(b.s.Clock() + 1)
			b.asks()
			if k, is := b.s.Due(); is {
				b.end(k.Move.Id, api.Voided)
			}
		}
		b.asks()
	}
}

// TestP15_1StampThatIsBorne loads a last stamp below those of transfers, so that what is kept then bears the stamps of others: none of them is lost, and each ends by its own time.
func TestP15_1StampThatIsBorne(t *testing.T) {
	for code := range 3 * 3 * 3 * 3 {
		timeouts := []int{code%3 + 1, code/3%3 + 1, code/9%3 + 1, code/27 + 1}
		m := model{}
		for i := range 2 {
			m.kept = append(m.kept, api.Kept{Move: api.Transfer{Id: wide.Of(uint64(i)), Stamp: i + 1, Timeout: timeouts[i]}, Fate: api.Waiting})
		}
		b := loaded(t, m)
		b.mark()
		b.wait(2, timeouts[2])
		b.mark()
		b.asks()
		b.wait(3, timeouts[3])
		b.mark()
		b.asks()
		for range 3 {
			b.time(b.s.Clock() + 1)
			b.asks()
			for {
				k, is := b.s.Due()
				if !is {
					break
				}
				b.end(k.Move.Id, api.Expired)
				b.mark()
				b.asks()
			}
		}
		for i := len(b.marks) - 1; i >= 0; i-- {
			b.back(i)
			b.asks()
			now := b.model.copy()
			b.s.Time(10)
			b.model.time(10)
			b.asks()
			b.s.Back(b.marks[i].mark)
			b.model = now
			b.asks()
		}
	}
}

// TestP15_1LoadKeepsNothing changes what was handed to Load, spare room included.
func TestP15_1LoadKeepsNothing(t *testing.T) {
	m := full(0)
	accounts, kept := slices.Clone(m.accounts), slices.Clone(m.kept)
	s, _ := books.Load(accounts[:5], kept[:5], m.clock, m.stamp)
	if !slices.Equal(accounts, m.accounts) || !slices.Equal(kept, m.kept) {
		t.Error("Load changes what it is handed")
	}
	b := &both{t: t, s: s, model: m.copy()}
	b.model.accounts, b.model.kept = b.model.accounts[:5], b.model.kept[:5]
	clear(accounts)
	clear(kept)
	b.asks()
	b.open(account(wide.Most, 1))
	b.wait(1000, 5)
	b.asks()
	if slices.ContainsFunc(accounts, func(a api.Account) bool { return a != (api.Account{}) }) || slices.ContainsFunc(kept, func(k api.Kept) bool { return k != (api.Kept{}) }) {
		t.Error("the state writes into what was handed to Load")
	}
}

// TestP15_1AnswersAreNew writes into each list that was answered, spare room included.
func TestP15_1AnswersAreNew(t *testing.T) {
	small := full(0)
	small.accounts, small.kept = small.accounts[:7], small.kept[:7]
	for _, m := range []model{{}, small, full(0)} {
		b := loaded(t, m)
		for range 2 {
			accounts := b.s.Accounts()
			clear(accounts[:cap(accounts)])
			for _, list := range [][]api.Kept{b.s.Keeps(), b.s.Between(0, 0, false), b.s.Between(0, 0, true), b.s.Between(33, 35, true)} {
				clear(list[:cap(list)])
			}
			b.asks()
		}
		first, second := b.s.Keeps(), b.s.Keeps()
		clear(first[:cap(first)])
		if !slices.Equal(second, m.kept) {
			t.Error("two answers share memory")
		}
		b.open(account(wide.Most, 1))
		b.wait(1000, 5)
		if !slices.Equal(second, m.kept) {
			t.Error("an answer changes")
		}
	}
}

// TestP15_1AskingChangesNothing asks for all between changes that are then taken back.
func TestP15_1AskingChangesNothing(t *testing.T) {
	small := full(0)
	small.accounts, small.kept = small.accounts[:9], small.kept[:9]
	b := loaded(t, small)
	b.time(100)
	b.mark()
	for range 5 {
		b.asks()
		if b.s.Mark() != b.marks[0].mark {
			t.Error("asking is a change")
		}
	}
	b.end(wide.Of(6), api.Expired)
	b.asks()
	b.back(0)
	b.asks()
}

// TestP15_1RefusedChangesNothing asks for what is refused, and for what changes nothing.
func TestP15_1RefusedChangesNothing(t *testing.T) {
	small := full(0)
	small.accounts, small.kept = small.accounts[:9], small.kept[:9]
	for _, m := range []model{small, full(0)} {
		b := loaded(t, m)
		b.mark()
		b.open(account(wide.Of(1), 99))
		b.turn(account(wide.Of(500), 99))
		b.keep(transfer(wide.Of(500), 9), transfer(wide.Of(1), 9), true)
		b.end(wide.Of(500), api.Posted)
		b.end(wide.Of(0), api.Posted)
		b.end(wide.Of(2), api.Posted)
		for _, fate := range []int{-1, 0, 1, 5} {
			b.end(wide.Of(1), fate)
		}
		for _, now := range []int{10, 9, 0, -1, api.MaxTicks + 1, math.MaxInt, math.MinInt} {
			b.time(now)
		}
		b.asks()
		if b.s.Mark() != b.marks[0].mark || !slices.Equal(b.model.accounts, m.accounts) || !slices.Equal(b.model.kept, m.kept) {
			t.Error("what is refused changes something")
		}
		b.back(0)
		b.asks()
	}
}

// TestP15_1StatesKnowNothingOfOneAnother changes two states in turn.
func TestP15_1StatesKnowNothingOfOneAnother(t *testing.T) {
	m := full(0)
	m.accounts, m.kept = m.accounts[:5], m.kept[:5]
	list := []*both{newBoth(t), newBoth(t), loaded(t, m), loaded(t, m)}
	for i := range 20 {
		for which, b := range list {
			b.open(account(wide.Of(uint64(i*which)), i))
			b.mark()
			b.wait(uint64(i+which), i%4)
			b.turn(account(wide.Of(uint64(i)), which))
			b.time(i * which)
			b.end(wide.Of(uint64(i)), api.Posted)
			if i%5 == which {
				b.back(i / 2)
				b.marks = b.marks[:0]
				for range i + 1 {
					b.mark()
				}
			}
		}
		for _, b := range list {
			b.asks()
		}
	}
}

// callCount is how many calls of few names there are.
const callCount = 13

// call makes one of some calls of few names, so that few of them come to all that can be.
func (b *both) call(which int) {
	b.t.Helper()
	switch which {
	case 0:
		b.open(account(wide.Of(1), len(b.model.kept)))
	case 1:
		b.open(account(wide.Of(2), b.model.clock))
	case 2:
		b.turn(account(wide.Of(1), b.model.stamp+b.model.clock))
	case 3:
		b.wait(1, 2)
	case 4:
		b.wait(2, 1)
	case 5:
		b.keep(api.Transfer{Timeout: 1}, api.Transfer{Id: wide.Of(3), Timeout: 1}, false)
	case 6:
		b.end(wide.Of(1), api.Posted)
	case 7:
		b.end(wide.Of(2), api.Expired)
	case 8:
		b.time(b.model.clock + 1)
	case 9:
		b.time(b.model.clock + 2)
	case 10:
		b.mark()
	case 11:
		if len(b.marks) > 0 {
			b.back(len(b.marks) - 1)
		}
	case 12:
		b.clear()
	}
}

// TestP15_1EachCall makes each four calls of those of few names one behind the other, from an empty state, and from one in which there is something.
func TestP15_1EachCall(t *testing.T) {
	size := 4
	all := 1
	for range size {
		all *= callCount
	}
	for code := range all {
		for _, ahead := range [][]int{nil, {0, 3, 4, 10, 8}} {
			b := newBoth(t)
			for _, which := range ahead {
				b.call(which)
			}
			rest := code
			for range size {
				b.call(rest % callCount)
				rest /= callCount
			}
			b.asksFew()
			for _, id := range []uint64{1, 2, 3} {
				b.asksFor(wide.Of(id))
			}
		}
	}
}

// chanceCall makes a call by chance, of some names.
func (b *both) chanceCall(chance *rand.Rand, names int) {
	b.t.Helper()
	id := wide.Of(uint64(chance.Intn(names)))
	if chance.Intn(4) == 0 {
		id.Hi = math.MaxUint64
	}
	n := chance.Intn(50)
	switch chance.Intn(16) {
	case 0, 1, 2:
		b.open(account(id, n))
	case 3, 4:
		b.turn(account(id, n))
	case 5, 6, 7, 8:
		b.keep(transfer(id, n), transfer(id, n/3), chance.Intn(4) > 0)
	case 9, 10:
		b.end(id, chance.Intn(6))
	case 11:
		b.time(b.model.clock + chance.Intn(9) - 2)
	case 12:
		if k, is := b.s.Due(); is {
			b.end(k.Move.Id, api.Expired)
		}
	case 13:
		b.mark()
	case 14:
		if len(b.marks) > 0 {
			b.back(chance.Intn(len(b.marks)))
		}
	case 15:
		if chance.Intn(8) == 0 {
			b.clear()
		}
	}
}

func TestP15_1EveryOrder(t *testing.T) {
	for seed := range int64(32) {
		chance := rand.New(rand.NewSource(seed))
		b := newBoth(t)
		most := []int{3, 8, 30, 200}[seed%4]
		for i := range 400 {
			b.chanceCall(chance, most)
			b.asksFew()
			if i%20 == 0 {
				b.asks()
			}
		}
		for _, a := range b.model.accounts {
			b.asksFor(a.Id)
		}
		for _, k := range b.model.kept {
			b.asksFor(k.Move.Id)
		}
	}
}

// TestP15_1Clear forgets: what was ahead of it isn't taken back, by whatever mark.
func TestP15_1Clear(t *testing.T) {
	for _, n := range append(numbers(), 1, 2, 3, 4, 5) {
		b := newBoth(t)
		b.call(0)
		b.call(3)
		b.call(8)
		b.clear()
		b.s.Back(n)
		b.asks()
		b.mark()
		b.call(4)
		b.call(6)
		b.back(0)
		b.asks()
		b.clear()
		b.clear()
		b.s.Back(0)
		b.asks()
	}
}

// TestP15_1ClearLetsGo makes very many changes, and clears each time: a state holds no more than one of few changes.
func TestP15_1ClearLetsGo(t *testing.T) {
	held := func() uint64 {
		runtime.GC()
		var stats runtime.MemStats
		runtime.ReadMemStats(&stats)
		return stats.HeapAlloc
	}
	s := books.New()
	s.Open(account(wide.Of(1), 1))
	first := s.Mark()
	before := held()
	for i := range 50000 {
		s.Turn(account(wide.Of(1), i))
		s.Clear()
	}
	after := held()
	if s.Mark() >= first || after > before+1<<20 {
		t.Errorf("%d bytes more are held, and the mark is %d", after-before, s.Mark())
	}
	runtime.KeepAlive(s)
}

// TestP15_2EachChange takes each kind of change back, by a mark just ahead of it, and by one at the beginning.
func TestP15_2EachChange(t *testing.T) {
	for first := range callCount - 3 {
		for second := range callCount - 3 {
			for third := range callCount - 3 {
				b := newBoth(t)
				for _, which := range []int{first, second, third} {
					b.mark()
					b.call(which)
				}
				for i := 2; i >= 0; i-- {
					b.back(i)
					b.asksFew()
					b.asksFor(wide.Of(1))
					b.asksFor(wide.Of(2))
				}
				b.call(third)
				b.call(first)
				b.asksFew()
				b.back(0)
				b.asks()
				if b.s.Stamp() != 0 || b.s.Clock() != 0 {
					t.Errorf("%d, %d, %d", first, second, third)
				}
			}
		}
	}
}

// TestP15_2GoesOn has a state that went back, and one that never went on: both go on alike.
func TestP15_2GoesOn(t *testing.T) {
	for seed := range int64(60) {
		chance := rand.New(rand.NewSource(seed))
		b := newBoth(t)
		for range chance.Intn(60) {
			b.chanceCall(chance, 8)
		}
		parts := b.model.copy()
		b.clear()
		b.mark()
		mark := b.marks[0].mark
		for range 1 + chance.Intn(60) {
			b.chanceCall(chance, 8)
			if len(b.marks) == 0 {
				// It was cleared.
				parts = b.model.copy()
				b.mark()
				mark = b.marks[0].mark
			}
		}
		b.s.Back(mark)
		b.model = parts.copy()
		b.marks = nil
		b.asks()
		other := loaded(t, parts)
		next := seed + 1000
		one, two := rand.New(rand.NewSource(next)), rand.New(rand.NewSource(next))
		for range 60 {
			b.chanceCall(one, 8)
			other.chanceCall(two, 8)
			if !slices.Equal(b.s.Accounts(), other.s.Accounts()) || !slices.Equal(b.s.Keeps(), other.s.Keeps()) {
				t.Fatalf("seed %d: they go on unlike one another", seed)
			}
		}
	}
}

// TestP15_2EachMarkOfEach fills a state, a mark ahead of each change, and goes back to each of them from the end.
func TestP15_2EachMarkOfEach(t *testing.T) {
	fill := func() *both {
		b := newBoth(t)
		for i := range 60 {
			b.mark()
			id := wide.Of(uint64(i))
			switch i % 6 {
			case 0:
				b.open(account(id, i))
			case 1:
				b.keep(transfer(id, i), transfer(id, i%5+1), true)
			case 2:
				b.turn(account(wide.Of(uint64(i-2)), i+1))
			case 3:
				b.time(i)
			case 4:
				b.keep(transfer(id, i), transfer(id, i%7), i%4 == 0)
			case 5:
				b.end(wide.Of(uint64(i-4)), i%3+2)
			}
		}
		b.mark()
		return b
	}
	for which := range 61 {
		b := fill()
		b.back(which)
		b.asks()
		b.back(which)
		b.asks()
		for i := which; i >= 0; i-- {
			b.back(i)
			b.asksFew()
			b.asksFor(wide.Of(uint64(i)))
		}
	}
}

// TestP15_2MarkAgain goes back to one mark again and again.
func TestP15_2MarkAgain(t *testing.T) {
	chance := rand.New(rand.NewSource(4))
	b := newBoth(t)
	for _, which := range []int{0, 3, 4, 8} {
		b.call(which)
	}
	b.mark()
	for range 50 {
		for range chance.Intn(9) {
			b.call(chance.Intn(10))
		}
		b.back(0)
		b.asks()
	}
}

// TestP15_2RoomAgain takes back what filled the state: there is room as ahead of it.
func TestP15_2RoomAgain(t *testing.T) {
	b := newBoth(t)
	b.open(account(wide.Most, 1))
	b.mark()
	for range 3 {
		for i := range uint64(200) {
			b.open(account(wide.Of(i), 1))
			b.wait(i, int(i%9))
		}
		b.asks()
		b.back(0)
		b.asks()
		if !b.s.Room() || b.s.Stamp() != 1 || len(b.s.Keeps()) != 0 || len(b.s.Accounts()) != 1 {
			t.Error("it isn't as it was")
		}
	}
}

// TestP15_2AnyNumber goes back to numbers that Mark never told: what comes is one of the states that were, and whole.
func TestP15_2AnyNumber(t *testing.T) {
	for _, n := range append(numbers(), 5, 6, 7, 9, 10, 11, 12, 13) {
		b := newBoth(t)
		were := []model{b.model.copy()}
		for _, which := range []int{0, 3, 2, 8, 1, 4, 6, 5, 8, 7} {
			b.call(which)
			were = append(were, b.model.copy())
		}
		b.s.Back(n)
		i := slices.IndexFunc(were, func(m model) bool {
			return m.clock == b.s.Clock() && m.stamp == b.s.Stamp() && slices.Equal(m.accounts, b.s.Accounts()) && slices.Equal(m.kept, b.s.Keeps())
		})
		if i < 0 {
			t.Fatalf("Back(%d): no state that was", n)
		}
		b.model = were[i]
		b.asks()
		for which := range 10 {
			b.call(which)
			b.asks()
		}
	}
}

// TestP15_2Loaded takes changes of a loaded state back, and nothing of what was loaded.
func TestP15_2Loaded(t *testing.T) {
	for _, n := range numbers() {
		m := full(0)
		m.accounts, m.kept = m.accounts[:9], m.kept[:9]
		b := loaded(t, m)
		b.s.Back(n)
		b.asks()
		b.mark()
		b.open(account(wide.Most, 1))
		b.end(wide.Of(1), api.Voided)
		b.wait(500, 1)
		b.time(500)
		b.asks()
		b.back(0)
		b.asks()
	}
}

// tells answers what a state tells of itself.
func tells(s *books.State) model {
	return model{accounts: s.Accounts(), kept: s.Keeps(), clock: s.Clock(), stamp: s.Stamp()}
}

// TestP15_3EachState loads what states tell, of calls in chance orders: they are the same ones, and go on likewise.
func TestP15_3EachState(t *testing.T) {
	for seed := range int64(15) {
		chance := rand.New(rand.NewSource(seed))
		b := newBoth(t)
		for range 12 {
			for range chance.Intn(40) {
				b.chanceCall(chance, []int{4, 12, 120}[seed%3])
			}
			other := loaded(t, tells(b.s))
			other.asks()
			b.asks()
			one, two := rand.New(rand.NewSource(seed+500)), rand.New(rand.NewSource(seed+500))
			b.clear()
			for range 40 {
				b.chanceCall(one, 12)
				other.chanceCall(two, 12)
				other.asksFew()
			}
			if got, want := tells(other.s), tells(b.s); !slices.Equal(got.accounts, want.accounts) || !slices.Equal(got.kept, want.kept) || got.clock != want.clock || got.stamp != want.stamp {
				t.Fatalf("seed %d: %+v, not %+v", seed, got, want)
			}
		}
	}
}

// TestP15_3EachFew loads what comes of each three calls of few names.
func TestP15_3EachFew(t *testing.T) {
	for code := range callCount * callCount * callCount {
		b := newBoth(t)
		for _, which := range []int{3, 4, code % callCount, code / callCount % callCount, code / callCount / callCount} {
			b.call(which)
		}
		other := loaded(t, tells(b.s))
		for now := range 4 {
			other.asksFew()
			b.asksFew()
			other.time(now)
			b.time(now)
		}
	}
}

// TestP15_3Again loads what a loaded state tells, full ones too.
func TestP15_3Again(t *testing.T) {
	for _, m := range []model{{}, full(0), {clock: api.MaxTicks, stamp: api.MaxTicks}} {
		b := loaded(t, m)
		for range 3 {
			b = loaded(t, tells(b.s))
			b.asks()
		}
		if got := tells(b.s); !slices.Equal(got.accounts, m.accounts) || !slices.Equal(got.kept, m.kept) {
			t.Errorf("%+v, not %+v", got, m)
		}
	}
}
