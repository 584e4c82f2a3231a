package vault_test

import (
	"math"
	"math/rand"
	"slices"
	"testing"

	"bondstore/api"
	"bondstore/books"
	"bondstore/platter"
	"bondstore/wide"
)

// chances picks things at random, alike in each run.
type chances struct{ *rand.Rand }

func newChances(seed int64) chances { return chances{rand.New(rand.NewSource(seed))} }

// crash is what persists of so many writes that wait.
func (c chances) crash(n int) (uint64, int, int) {
	masks := []uint64{0, math.MaxUint64, c.Uint64(), c.Uint64() | c.Uint64(), 1<<c.Intn(n+1) - 1, math.MaxUint64 << c.Intn(n+1), 1 << c.Intn(n+1)}
	return masks[c.Intn(len(masks))], c.Intn(2*n+1) - n, []int{c.Intn(140) - 6, c.Intn(10), 118 + c.Intn(11)}[c.Intn(3)]
}

func times[T any](n int, one func() T) []T {
	var list []T
	for range n {
		list = append(list, one())
	}
	return list
}

// small is a name of one of so many.
func (c chances) small(n int) api.Num { return wide.Of(uint64(1 + c.Intn(n))) }

// account is one that often can be made.
func (c chances) account() api.Account {
	return api.Account{Id: c.small(36), Ledger: 1, Code: c.Intn(20) / 19 * c.Intn(1<<17), Flags: c.Intn(12) / 11 * c.Intn(16)}
}

// transfer is one that often can be done, over books.
func (c chances) transfer(kept []api.Kept) api.Transfer {
	flags := []int{0, 0, 0, pending, pending, debitMost, linked}[c.Intn(7)]
	x := api.Transfer{Id: c.small(150), Debit: c.small(8), Credit: c.small(8), Amount: c.small(50), Ledger: 1, Code: 1, Flags: flags}
	if flags == pending {
		x.Timeout = c.Intn(9)
	}
	if len(kept) > 0 && c.Intn(3) == 0 {
		x = api.Transfer{Id: x.Id, Pending: kept[c.Intn(len(kept))].Move.Id, Flags: []int{post, void}[c.Intn(2)]}
	}
	return x
}

// request is any of all kinds, now and then one that can't be.
func (c chances) request(s *books.State) api.Request {
	kept := s.Keeps()
	q := api.Request{
		Op: []int{1, 1, 2, 2, 2, 2, 3, 3, 3, 4, 5, 6}[c.Intn(12)], Now: s.Clock() + c.Intn(4) - c.Intn(20)/19,
		Ids:    times(1+c.Intn(17), func() api.Num { return c.small(150) }),
		Filter: api.Filter{Account: c.small(8), From: c.Intn(9), To: c.Intn(99), Debits: c.Intn(4) != 0, Credits: c.Intn(4) != 0, Latest: c.Intn(2) == 0, Limit: c.Intn(18)},
	}
	if c.Intn(3) == 0 {
		q.Accounts, q.Transfers = times(c.Intn(10), c.account), times(c.Intn(10), func() api.Transfer { return c.transfer(kept) })
	} else {
		q.Accounts, q.Transfers = times(1+c.Intn(2), c.account), times(1+c.Intn(2), func() api.Transfer { return c.transfer(kept) })
	}
	for i := range q.Accounts {
		q.Accounts[i].Code++
	}
	if c.Intn(40) == 0 {
		q.Op = c.Intn(12) - 2
	}
	return q
}

// act is a request, or now and then that the books are saved.
func (c chances) act(s *books.State) act {
	if c.Intn(12) == 0 {
		return save
	}
	return do(c.request(s))
}

// TestP23_1EveryOrder does requests in chance orders, saves, and opens the disk again, on disks of all sizes: each answer, each sector and each operation is as the chapter says.
func TestP23_1EveryOrder(t *testing.T) {
	errs, came := map[api.Errno]int{}, map[api.Result]int{}
	for seed := range int64(100) {
		c := newChances(1000 + seed)
		b := newBoth(t, []int{12, 13, 16, 22, 31, 60, 120, 250, 600, 700}[seed%10])
		for range 100 {
			switch c.Intn(30) {
			case 0:
				b.arm(c.Intn(40))
			case 1:
				b = b.again()
			case 2:
				if b.v.Sick() {
					b = b.behindCrash()
					errs[api.ErrDisk]++
				}
			default:
				p := b.act(c.act(b.v.Books()))
				errs[p.Err]++
				for _, r := range p.Results {
					came[r]++
				}
			}
		}
	}
	for _, err := range []api.Errno{0, 1, 3, 6, 8, 9} {
		if errs[err] < 20 {
			t.Errorf("just %d times %d: %v", errs[err], err, errs)
		}
	}
	for _, r := range []api.Result{0, 1, 10, 11, 14, 19, 20, 24, 27, 28} {
		if came[r] == 0 {
			t.Errorf("never %d: %v", r, came)
		}
	}
}

// TestP23_1AnyDisk opens disks whose sectors are others by chance: what has books is opened, and what has none is refused.
func TestP23_1AnyDisk(t *testing.T) {
	is, not := 0, 0
	for seed := range int64(30) {
		c := newChances(seed)
		b := newBoth(t, []int{12, 17, 22, 27}[seed%4])
		for range 12 {
			b.act(c.act(b.v.Books()))
		}
		base := stands(b.d)
		for range 150 {
			sectors := slices.Clone(base)
			for range 1 + c.Intn(3) {
				i := c.Intn(len(sectors))
				s := []byte(sectors[i])
				switch c.Intn(4) {
				case 0:
					s = []byte(base[c.Intn(len(base))])
				case 1:
					s[c.Intn(128)] ^= 1 << c.Intn(8)
				case 2:
					copy(s[:c.Intn(129)], base[c.Intn(len(base))])
				case 3:
					s = []byte(leafOf(1+c.Intn(30), c.Intn(2), string(s[12:12+c.Intn(93)])))
				}
				sectors[i] = string(s)
			}
			d := diskOf(t, sectors)
			if _, ok := modelOf(d); !ok {
				notOpened(t, d, api.ErrForm)
				not++
				continue
			}
			w := opened(t, d)
			// Where a sector bears the greatest number of all nothing is said of what is written.
			if w.m.next() < most {
				w.act(c.act(w.v.Books()))
			}
			is++
		}
	}
	if is < 500 || not < 300 {
		t.Errorf("%d have books, %d have none", is, not)
	}
}

// TestP23_1ChanceSectors opens disks of any bytes: of no head there are no books, and no records.
func TestP23_1ChanceSectors(t *testing.T) {
	c := newChances(77)
	for n := range 200 {
		d := platter.New(12 + n%30)
		for i := range d.Sectors() {
			b := make([]byte, 128)
			c.Read(b)
			// Numbers up to the half of the greatest one, so that others are behind them.
			b[7], b[127] = b[7]&7, b[127]&7
			put(t, d, i, string(b))
		}
		b := opened(t, d)
		if b.v.Seq() != 0 || b.v.Turn() != 0 {
			t.Errorf("turn %d, seq %d", b.v.Turn(), b.v.Seq())
		}
		b.must(tick(1))
		b.save(0)
		b.must(tick(2))
		b.behindCrash()
	}
}
