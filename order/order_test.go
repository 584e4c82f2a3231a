package order_test

import (
	"cmp"
	"math"
	"math/rand"
	"slices"
	"testing"

	"bondstore/order"
)

// numbers are stamps, places and bounds at which a sign, a bit or a size turns; rising.
func numbers() []int {
	list := []int{0, 3, -3, math.MaxInt, math.MaxInt - 1, math.MinInt, math.MinInt + 1, 1<<40 + 1, 1<<40 - 1}
	for bit := range 63 {
		list = append(list, 1<<bit, -1<<bit)
	}
	slices.Sort(list)
	return slices.Compact(list)
}

// model is a list as the chapter tells it: of each stamp a place.
type model map[int]int

func (m model) put(stamp, at int) bool {
	_, is := m[stamp]
	m[stamp] = at
	return !is
}

func (m model) drop(stamp int) bool {
	_, is := m[stamp]
	delete(m, stamp)
	return is
}

// pairs reads the chapter's words for Range one by one.
func (m model) pairs(from, to int, falling bool) []order.Pair {
	var list []order.Pair
	for stamp, at := range m {
		if stamp >= from && (to == 0 || stamp <= to) {
			list = append(list, order.Pair{Stamp: stamp, At: at})
		}
	}
	slices.SortFunc(list, func(a, b order.Pair) int {
		if falling {
			a, b = b, a
		}
		return cmp.Compare(a.Stamp, b.Stamp)
	})
	return list
}

func (m model) last() int {
	all := m.pairs(math.MinInt, 0, true)
	if len(all) == 0 {
		return 0
	}
	return all[0].Stamp
}

// both is a list, and what it should be.
type both struct {
	t     *testing.T
	list  *order.List
	model model
}

func newBoth(t *testing.T) *both { return &both{t, &order.List{}, model{}} }

func (b *both) put(stamp, at int) {
	b.t.Helper()
	if got, want := b.list.Put(stamp, at), b.model.put(stamp, at); got != want {
		b.t.Fatalf("Put(%d, %d): %v", stamp, at, got)
	}
}

func (b *both) drop(stamp int) {
	b.t.Helper()
	if got, want := b.list.Drop(stamp), b.model.drop(stamp); got != want {
		b.t.Fatalf("Drop(%d): %v", stamp, got)
	}
}

// asks asks for one range, rising and falling.
func (b *both) asks(from, to int) {
	b.t.Helper()
	for _, falling := range []bool{false, true} {
		if got, want := b.list.Range(from, to, falling), b.model.pairs(from, to, falling); !slices.Equal(got, want) {
			b.t.Fatalf("Range(%d, %d, %v): %v, not %v", from, to, falling, got, want)
		}
	}
}

// whole asks for all that is there, how much it is, and for the greatest.
func (b *both) whole() {
	b.t.Helper()
	b.asks(math.MinInt, 0)
	if got, want := b.list.Len(), len(b.model); got != want {
		b.t.Fatalf("%d stamps, not %d", got, want)
	}
	if got, want := b.list.Last(), b.model.last(); got != want {
		b.t.Fatalf("the last one is %d, not %d", got, want)
	}
}

// ranges asks for the whole, and for each range between two of some bounds, those that are the wrong way round, too.
func (b *both) ranges(bounds []int) {
	b.t.Helper()
	b.whole()
	for _, from := range bounds {
		for _, to := range bounds {
			b.asks(from, to)
		}
	}
}

// upTo answers the numbers from -1 to n.
func upTo(n int) []int {
	var list []int
	for i := range n + 2 {
		list = append(list, i-1)
	}
	return list
}

// orders answers all orders of the numbers below n.
func orders(n int) [][]int {
	if n == 0 {
		return [][]int{{}}
	}
	var list [][]int
	for _, ahead := range orders(n - 1) {
		for i := range n {
			list = append(list, slices.Insert(slices.Clone(ahead), i, n-1))
		}
	}
	return list
}

func TestP12_1Example(t *testing.T) {
	l := &order.List{}
	first, second := l.Put(5, 1), l.Put(3, 2)
	want := []order.Pair{{Stamp: 3, At: 2}, {Stamp: 5, At: 1}}
	if got := l.Range(0, 0, false); !first || !second || !slices.Equal(got, want) {
		t.Errorf("%v, %v, %v", first, second, got)
	}
	slices.Reverse(want)
	if got := l.Range(0, 0, true); !slices.Equal(got, want) {
		t.Errorf("falling: %v", got)
	}
}

// TestP12_1Empty asks lists in which nothing is, or nothing any more.
func TestP12_1Empty(t *testing.T) {
	var plain order.List
	emptied := &order.List{}
	for i := range 9 {
		emptied.Put(i, i)
	}
	for i := range 9 {
		emptied.Drop(i)
	}
	for _, list := range []*order.List{{}, new(order.List), &plain, emptied} {
		b := &both{t, list, model{}}
		b.whole()
		for _, n := range numbers() {
			b.drop(n)
			b.asks(n, 0)
			b.asks(0, n)
			b.asks(n, n)
		}
		b.whole()
		b.put(5, 1)
		b.put(3, 2)
		b.ranges(upTo(6))
	}
}

func TestP12_1NilList(t *testing.T) {
	var l *order.List
	for range 2 {
		for _, n := range numbers() {
			if l.Put(n, 1) || l.Put(1, n) || l.Drop(n) {
				t.Errorf("Put or Drop of %d", n)
			}
			for _, falling := range []bool{false, true} {
				if len(l.Range(n, 0, falling)) != 0 || len(l.Range(0, n, falling)) != 0 || len(l.Range(n, n, falling)) != 0 {
					t.Errorf("Range of %d", n)
				}
			}
		}
		if l.Len() != 0 || l.Last() != 0 {
			t.Errorf("%d, %d", l.Len(), l.Last())
		}
	}
}

// TestP12_1OneStamp takes each stamp alone through all that can happen to it.
func TestP12_1OneStamp(t *testing.T) {
	for _, n := range numbers() {
		b := newBoth(t)
		for at := range 3 {
			b.drop(n)
			b.put(n, at+7)
			b.whole()
			b.put(n, at-7)
			b.whole()
			b.put(n, at-7)
			b.whole()
			for _, bound := range numbers() {
				b.asks(bound, 0)
				b.asks(math.MinInt, bound)
				b.asks(bound, bound)
			}
			b.drop(n)
			b.whole()
		}
	}
}

// TestP12_1AllStamps has all stamps at edges at a time, put from the middle on, and asks for each range between two of them.
func TestP12_1AllStamps(t *testing.T) {
	list := numbers()
	b := newBoth(t)
	for i := range list {
		b.put(list[(i+len(list)/2)%len(list)], i)
		b.whole()
	}
	b.ranges(list)
	for i := range list {
		b.drop(list[(i+len(list)/3)%len(list)])
		b.whole()
	}
}

// TestP12_1EachPlace: places are not stamps; they may be any number, and many may be one.
func TestP12_1EachPlace(t *testing.T) {
	b := newBoth(t)
	for i, at := range numbers() {
		b.put(1000, at)
		b.whole()
		b.put(i, at)
	}
	b.whole()
	for i := range numbers() {
		b.put(i, 9)
	}
	b.whole()
	b.drop(3)
	b.whole()
}

// TestP12_1NoBound: a bound of 0 to is none; of from it is one, as all others are.
func TestP12_1NoBound(t *testing.T) {
	l := &order.List{}
	for _, n := range []int{-2, -1, 0, 1, 2, math.MinInt, math.MaxInt} {
		l.Put(n, 0)
	}
	for _, c := range []struct {
		from, to int
		want     []int
	}{
		{0, 0, []int{0, 1, 2, math.MaxInt}},
		{math.MinInt, 0, []int{math.MinInt, -2, -1, 0, 1, 2, math.MaxInt}},
		{math.MinInt + 1, 0, []int{-2, -1, 0, 1, 2, math.MaxInt}},
		{math.MinInt, -1, []int{math.MinInt, -2, -1}},
		{math.MinInt, math.MinInt, []int{math.MinInt}},
		{-1, 1, []int{-1, 0, 1}},
		{1, -1, nil},
		{0, -1, nil},
		{0, 1, []int{0, 1}},
		{3, math.MaxInt - 1, nil},
		{3, math.MaxInt, []int{math.MaxInt}},
		{math.MaxInt, 0, []int{math.MaxInt}},
		{math.MaxInt, math.MinInt, nil},
		{math.MaxInt, 2, nil},
	} {
		for _, falling := range []bool{false, true} {
			var got []int
			for _, p := range l.Range(c.from, c.to, falling) {
				got = append(got, p.Stamp)
			}
			want := slices.Clone(c.want)
			if falling {
				slices.Reverse(want)
			}
			if !slices.Equal(got, want) {
				t.Errorf("Range(%d, %d, %v): %v, not %v", c.from, c.to, falling, got, want)
			}
		}
	}
}

// TestP12_1PutInEachOrder puts six stamps with a gap between them in each order, and then each one anew.
func TestP12_1PutInEachOrder(t *testing.T) {
	for _, list := range orders(6) {
		b := newBoth(t)
		for round := range 2 {
			for _, i := range list {
				b.put(2*i+1, 100*round+i)
				b.whole()
			}
		}
		b.asks(4, 8)
		b.asks(3, 9)
	}
}

// TestP12_1DropInEachOrder drops six stamps in each order, each one twice, and one beside it, and puts them again.
func TestP12_1DropInEachOrder(t *testing.T) {
	for _, list := range orders(6) {
		b := newBoth(t)
		for i := range 6 {
			b.put(2*i+1, i)
		}
		for _, i := range list {
			b.drop(2 * i)
			b.drop(2*i + 1)
			b.drop(2*i + 1)
			b.whole()
		}
		for _, i := range list {
			b.put(2*i+1, i+50)
		}
		b.whole()
	}
}

// TestP12_1EachCall puts and drops three stamps in each order of six calls, and asks for all ranges behind each call.
func TestP12_1EachCall(t *testing.T) {
	const stamps, kinds, calls = 3, 2, 6
	all := 1
	for range calls {
		all *= stamps * kinds
	}
	bounds := upTo(stamps + 1)
	for number := range all {
		b := newBoth(t)
		for left, i := number, 0; i < calls; i++ {
			stamp := 1 + left%stamps
			left /= stamps
			if left%kinds == 0 {
				b.put(stamp, i+1)
			} else {
				b.drop(stamp)
			}
			left /= kinds
			b.whole()
		}
		if number%16 == 0 {
			b.ranges(bounds)
		}
	}
}

// TestP12_1EachSet has each set of seven stamps, and asks for each range.
func TestP12_1EachSet(t *testing.T) {
	const n = 7
	for set := range 1 << n {
		b := newBoth(t)
		for i := range n {
			if set>>i&1 == 1 {
				b.put(i, 10*i)
			}
		}
		b.ranges(upTo(n))
	}
}

// TestP12_1AnswerIsNewMemory writes into answers, and behind them, and changes the list: neither sees the other one.
func TestP12_1AnswerIsNewMemory(t *testing.T) {
	for _, falling := range []bool{false, true} {
		for _, bounds := range [][2]int{{0, 0}, {1, 3}, {2, 0}, {0, 2}, {2, 2}} {
			b := newBoth(t)
			for i := range 5 {
				b.put(i, i)
			}
			b.drop(4)
			answer := b.list.Range(bounds[0], bounds[1], falling)
			kept, again := slices.Clone(answer), b.list.Range(bounds[0], bounds[1], falling)
			for i := range 4 {
				b.put(i, 77)
			}
			b.put(-1, 5)
			b.drop(2)
			b.put(9, 9)
			if !slices.Equal(answer, kept) {
				t.Errorf("%v changed to %v", kept, answer)
			}
			for i := range answer {
				answer[i] = order.Pair{Stamp: 50 - i, At: 50}
			}
			clear(answer[:cap(answer)])
			if !slices.Equal(again, kept) {
				t.Errorf("one answer is another one's: %v", again)
			}
			b.whole()
		}
	}
}

func TestP12_1ListsKnowNothingOfOneAnother(t *testing.T) {
	a, b := newBoth(t), newBoth(t)
	for i := range 40 {
		a.put(i, i)
		b.whole()
		b.put(-i, i)
		a.whole()
	}
	for i := range 40 {
		a.drop(i)
		b.whole()
	}
	a.whole()
}

// TestP12_1AskingChangesNothing asks between all calls in one list, and never in another one: both tell the same.
func TestP12_1AskingChangesNothing(t *testing.T) {
	random := rand.New(rand.NewSource(12))
	asked, silent := &order.List{}, &order.List{}
	for i := range 3000 {
		stamp := random.Intn(60)
		if random.Intn(3) == 0 {
			asked.Drop(stamp)
			silent.Drop(stamp)
		} else {
			asked.Put(stamp, i)
			silent.Put(stamp, i)
		}
		for range 3 {
			asked.Range(random.Intn(60), random.Intn(60), i%2 == 0)
			asked.Range(0, 0, true)
			asked.Drop(60 + i)
			asked.Len()
			asked.Last()
		}
	}
	if got, want := asked.Range(0, 0, false), silent.Range(0, 0, false); !slices.Equal(got, want) {
		t.Errorf("%v, not %v", got, want)
	}
}

// TestP12_1VeryMany has many stamps: put rising, falling, by turns from both ends, and with great steps.
func TestP12_1VeryMany(t *testing.T) {
	const n = 1 << 13
	for what, stamp := range map[string]func(i int) int{
		"rising":    func(i int) int { return 1 + i },
		"falling":   func(i int) int { return n - i },
		"by turns":  func(i int) int { return (1 - i%2*2) * (1 + i) },
		"in steps":  func(i int) int { return (i - n/2) << 50 },
		"scattered": func(i int) int { return i * 4099 % n },
	} {
		b := newBoth(t)
		for i := range n {
			b.put(stamp(i), i)
		}
		b.whole()
		for i := range n {
			if i%3 == 0 {
				b.drop(stamp(i))
			} else if i%3 == 1 {
				b.put(stamp(i), -i)
			}
		}
		b.whole()
		for i := range 30 {
			b.asks(stamp(i*200), stamp(i*271))
		}
		for i := range n {
			b.drop(stamp(i))
		}
		if b.whole(); b.list.Len() != 0 {
			t.Errorf("%s: %d are left", what, b.list.Len())
		}
	}
}

// TestP12_1ComeAndGo has few stamps at a time, but many in all: each comes behind the others, and the first one goes.
func TestP12_1ComeAndGo(t *testing.T) {
	for _, stay := range []int{1, 2, 3, 8, 9, 96} {
		b := newBoth(t)
		for i := range 2000 {
			b.put(1+i, i)
			if i >= stay {
				b.drop(1 + i - stay)
			}
			b.whole()
		}
	}
}

// TestP12_1EveryOrder does what comes, on few stamps and on many, and holds all answers against the model's.
func TestP12_1EveryOrder(t *testing.T) {
	for seed := range int64(300) {
		random := rand.New(rand.NewSource(seed))
		stamps := make([]int, []int{1, 2, 5, 12, 40, 150}[seed%6])
		for i := range stamps {
			stamps[i] = int(random.Uint64() >> random.Intn(64))
			if seed%2 == 0 {
				stamps[i] = random.Intn(2*len(stamps)) - len(stamps)/2
			}
		}
		one := func() int { return stamps[random.Intn(len(stamps))] }
		b := newBoth(t)
		for i := range 400 {
			// Stamps come for some time, and then go.
			if random.Intn(8) < 2+4*(i/100%2) {
				b.drop(one())
			} else {
				b.put(one(), random.Intn(100)-50)
			}
			b.whole()
			b.asks(one()+random.Intn(3)-1, one()+random.Intn(3)-1)
			b.asks(one(), 0)
		}
	}
}

// parts asks for a range in two: up to a stamp, and from the next one on. Of 0 there is no part up to it, for as a bound it is none.
func parts(t *testing.T, l *order.List, from, mid, to int) {
	t.Helper()
	if mid == 0 || mid == math.MaxInt {
		return
	}
	for _, falling := range []bool{false, true} {
		one, two := l.Range(from, mid, falling), l.Range(mid+1, to, falling)
		if falling {
			one, two = two, one
		}
		whole := l.Range(from, to, falling)
		if !slices.Equal(append(slices.Clone(one), two...), whole) {
			t.Fatalf("from %d to %d, parted at %d, %v: %v and %v, not %v", from, to, mid, falling, one, two, whole)
		}
	}
}

// TestP12_2EachSet parts each range over each set of seven stamps at each place in it.
func TestP12_2EachSet(t *testing.T) {
	const n = 7
	for set := range 1 << n {
		l := &order.List{}
		for i := range n {
			if set>>i&1 == 1 {
				l.Put(1+i, 10*i)
			}
		}
		for from := range n + 2 {
			parts(t, l, from, n+5, 0)
			for mid := max(from-1, 1); mid <= n+1; mid++ {
				parts(t, l, from, mid, 0)
				for to := mid; to <= n+1; to++ {
					parts(t, l, from, mid, to)
				}
			}
		}
	}
}

// TestP12_2Edges parts the whole, and what isn't below 0, at all numbers at edges, and at those beside them.
func TestP12_2Edges(t *testing.T) {
	l := &order.List{}
	for i, n := range numbers() {
		l.Put(n, i)
	}
	for _, n := range numbers() {
		for _, mid := range []int{max(n, math.MinInt+1) - 1, n, min(n, math.MaxInt-1) + 1} {
			parts(t, l, math.MinInt, mid, 0)
			parts(t, l, math.MinInt, mid, math.MaxInt)
			if mid > 0 {
				parts(t, l, 0, mid, 0)
			}
		}
	}
}

// TestP12_2Pieces gathers a whole of many ranges, each of which begins behind the last stamp that the one ahead of it answered.
func TestP12_2Pieces(t *testing.T) {
	for seed := range int64(200) {
		random := rand.New(rand.NewSource(seed))
		l := &order.List{}
		most := 1
		for i := range random.Intn(200) {
			stamp := 1 + random.Intn(300)
			if random.Intn(4) == 0 {
				l.Drop(stamp)
			} else {
				l.Put(stamp, i)
			}
			most = max(most, stamp)
		}
		var rising, falling []order.Pair
		for from := 1; from <= most; {
			to := from + random.Intn(20)
			rising = append(rising, l.Range(from, to, false)...)
			falling = append(l.Range(from, to, true), falling...)
			from = to + 1
		}
		if want := l.Range(0, 0, false); !slices.Equal(rising, want) {
			t.Fatalf("%v, not %v", rising, want)
		}
		if want := l.Range(0, 0, true); !slices.Equal(falling, want) {
			t.Fatalf("falling: %v, not %v", falling, want)
		}
		if len(rising) != l.Len() {
			t.Fatalf("%d, not %d", len(rising), l.Len())
		}
	}
}
