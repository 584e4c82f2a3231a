package queue_test

import (
	"math"
	"math/rand"
	"slices"
	"testing"

	"bondstore/api"
	"bondstore/queue"
)

// numbers are times and stamps at which a sign, a bit or a size turns; rising.
func numbers() []int {
	list := []int{0, 3, -3, math.MaxInt, math.MaxInt - 1, math.MinInt, math.MinInt + 1, api.MaxTicks + 1, api.MaxTicks - 1, api.MaxTicks + api.MaxTimeout}
	for bit := range 63 {
		list = append(list, 1<<bit, -1<<bit)
	}
	slices.Sort(list)
	return slices.Compact(list)
}

// item answers one whose name tells it from every other one.
func item(due, stamp int) queue.Item {
	return queue.Item{Due: due, Stamp: stamp, Id: api.Num{Hi: ^uint64(due), Lo: uint64(stamp) + 1}}
}

// model is a queue as the chapter tells it: items, in no order.
type model []queue.Item

// isAhead reads the chapter's words for it.
func isAhead(x, y queue.Item) bool {
	return x.Due < y.Due || x.Due == y.Due && x.Stamp < y.Stamp
}

func (m model) has(stamp int) bool {
	return slices.ContainsFunc(m, func(x queue.Item) bool { return x.Stamp == stamp })
}

func (m *model) drop(stamp int) bool {
	was := m.has(stamp)
	*m = slices.DeleteFunc(*m, func(x queue.Item) bool { return x.Stamp == stamp })
	return was
}

func (m model) first() (queue.Item, bool) {
	for _, x := range m {
		if !slices.ContainsFunc(m, func(y queue.Item) bool { return isAhead(y, x) }) {
			return x, true
		}
	}
	return queue.Item{}, false
}

func (m *model) pop(now int) (queue.Item, bool) {
	x, is := m.first()
	if !is || x.Due > now {
		return queue.Item{}, false
	}
	m.drop(x.Stamp)
	return x, true
}

// both is a queue, and what it should be.
type both struct {
	t     *testing.T
	queue *queue.Queue
	model *model
}

func newBoth(t *testing.T) *both { return &both{t, &queue.Queue{}, &model{}} }

// put leaves out a stamp that is there, for of two of one stamp the chapter tells too little.
func (b *both) put(due, stamp int) {
	if !b.model.has(stamp) {
		b.queue.Put(item(due, stamp))
		*b.model = append(*b.model, item(due, stamp))
	}
}

func (b *both) drop(stamp int) {
	b.t.Helper()
	if got, want := b.queue.Drop(stamp), b.model.drop(stamp); got != want {
		b.t.Fatalf("Drop(%d): %v", stamp, got)
	}
}

func (b *both) pop(now int) bool {
	b.t.Helper()
	got, is := b.queue.Pop(now)
	want, should := b.model.pop(now)
	if got != want || is != should {
		b.t.Fatalf("Pop(%d): %+v, %v, not %+v, %v", now, got, is, want, should)
	}
	return is
}

// asks asks for the first one, and how many there are.
func (b *both) asks() {
	b.t.Helper()
	got, is := b.queue.First()
	want, should := b.model.first()
	if got != want || is != should {
		b.t.Fatalf("First: %+v, %v, not %+v, %v", got, is, want, should)
	}
	if got, want := b.queue.Len(), len(*b.model); got != want {
		b.t.Fatalf("%d items, not %d", got, want)
	}
}

// drain pops all that is there.
func (b *both) drain() {
	b.t.Helper()
	b.asks()
	for b.pop(math.MaxInt) {
		b.asks()
	}
}

// orders answers all orders of the numbers below n.
func orders(n int) [][]int {
	if n == 0 {
		return [][]int{{}}
	}
	var list [][]int
	for _, ahead := range orders(n - 1) {
		for i := range n {
			list = append(list, slices.Insert(slices.Clone(ahead), i, n-1))
		}
	}
	return list
}

func TestP13_1Example(t *testing.T) {
	q := &queue.Queue{}
	q.Put(queue.Item{Due: 5, Stamp: 1, Id: api.Num{Lo: 7}})
	second := queue.Item{Due: 3, Stamp: 2, Id: api.Num{Hi: 1, Lo: 8}}
	q.Put(second)
	if x, is := q.Pop(4); x != second || !is {
		t.Errorf("%+v, %v", x, is)
	}
	if x, is := q.Pop(4); x != (queue.Item{}) || is || q.Len() != 1 {
		t.Errorf("%+v, %v: it ends at 5", x, is)
	}
}

// TestP13_1Empty asks queues in which nothing is, or nothing any more.
func TestP13_1Empty(t *testing.T) {
	var plain queue.Queue
	popped, dropped := &queue.Queue{}, &queue.Queue{}
	for i := range 9 {
		popped.Put(item(i, i+1))
		dropped.Put(item(i, i+1))
	}
	for i := range 9 {
		popped.Pop(i)
		dropped.Drop(i + 1)
	}
	for _, q := range []*queue.Queue{{}, new(queue.Queue), &plain, popped, dropped} {
		b := &both{t, q, &model{}}
		b.asks()
		for _, n := range numbers() {
			b.drop(n)
			b.pop(n)
			b.asks()
		}
		b.put(5, 1)
		b.put(3, 2)
		b.drain()
	}
}

func TestP13_1NilQueue(t *testing.T) {
	var q *queue.Queue
	for range 2 {
		for _, n := range numbers() {
			q.Put(item(n, n))
			if q.Drop(n) {
				t.Errorf("Drop(%d)", n)
			}
			if x, is := q.Pop(n); x != (queue.Item{}) || is {
				t.Errorf("Pop(%d): %+v, %v", n, x, is)
			}
			if x, is := q.First(); x != (queue.Item{}) || is || q.Len() != 0 {
				t.Errorf("%+v, %v, %d", x, is, q.Len())
			}
		}
	}
}

// TestP13_1OneItem takes one item alone, of each time and each stamp, through all that can happen to it.
func TestP13_1OneItem(t *testing.T) {
	for _, due := range numbers() {
		for _, stamp := range numbers() {
			b := newBoth(t)
			b.put(due, stamp)
			b.asks()
			b.drop(stamp ^ 1)
			if due > math.MinInt {
				b.pop(due - 1)
				b.pop(math.MinInt)
			}
			b.asks()
			b.pop(due)
			b.drop(stamp)
			b.put(due, stamp)
			b.drop(stamp)
			b.pop(math.MaxInt)
			b.put(due, stamp)
			b.drain()
		}
	}
}

// TestP13_1ItemIsWhole holds each bit of an item: what was put is what is answered.
func TestP13_1ItemIsWhole(t *testing.T) {
	list := []queue.Item{{}, {Due: -1, Stamp: -1, Id: api.Num{Hi: math.MaxUint64, Lo: math.MaxUint64}}}
	for bit := range 64 {
		list = append(list,
			queue.Item{Due: 1 << bit}, queue.Item{Stamp: 1 << bit},
			queue.Item{Id: api.Num{Hi: 1 << bit}}, queue.Item{Id: api.Num{Lo: 1 << bit}})
	}
	for _, x := range list {
		q := &queue.Queue{}
		q.Put(x)
		if got, is := q.First(); got != x || !is {
			t.Errorf("First: %+v, %v, not %+v", got, is, x)
		}
		if got, is := q.Pop(x.Due); got != x || !is || q.Len() != 0 {
			t.Errorf("Pop: %+v, %v, not %+v", got, is, x)
		}
	}
}

// TestP13_1Now pops one of some items at each time: just at its own time, and later, it goes.
func TestP13_1Now(t *testing.T) {
	all := numbers()
	for _, now := range all {
		b := newBoth(t)
		for i := range all {
			b.put(all[len(all)-1-i], i)
		}
		for b.pop(now) {
			b.asks()
		}
		if first, is := b.queue.First(); is && first.Due <= now {
			t.Errorf("at %d one of %d is left", now, first.Due)
		}
		b.drain()
	}
}

// TestP13_1TimeIsAheadOfStamp has each two of some items: the time tells first, then the stamp, and never the name.
func TestP13_1TimeIsAheadOfStamp(t *testing.T) {
	all := []int{math.MinInt, math.MinInt + 1, -1 << 32, -1, 0, 1, 2, 1 << 32, api.MaxTicks, math.MaxInt - 1, math.MaxInt}
	for _, due := range all {
		for _, due2 := range all {
			for _, stamp := range all {
				for _, stamp2 := range all {
					b := newBoth(t)
					b.put(due, stamp)
					b.asks()
					b.put(due2, stamp2)
					b.asks()
					b.drain()
				}
			}
		}
	}
}

// TestP13_1NameTellsNothing has items whose names rise, fall and are alike.
func TestP13_1NameTellsNothing(t *testing.T) {
	for what, id := range map[string]func(i int) api.Num{
		"rising":  func(i int) api.Num { return api.Num{Hi: uint64(i), Lo: uint64(i)} },
		"falling": func(i int) api.Num { return api.Num{Hi: uint64(99 - i), Lo: uint64(99 - i)} },
		"alike":   func(int) api.Num { return api.Num{Lo: 5} },
		"none":    func(int) api.Num { return api.Num{} },
	} {
		q := &queue.Queue{}
		for i := range 20 {
			stamp := i * 7 % 20
			q.Put(queue.Item{Due: stamp / 5, Stamp: stamp, Id: id(stamp)})
		}
		for i := range 20 {
			want := queue.Item{Due: i / 5, Stamp: i, Id: id(i)}
			if got, is := q.Pop(3); got != want || !is {
				t.Errorf("%s: %+v, %v, not %+v", what, got, is, want)
			}
		}
	}
}

// TestP13_1PutInEachOrder puts seven items in each order: of unlike times, of one time, and of times of which some are one.
func TestP13_1PutInEachOrder(t *testing.T) {
	for _, list := range orders(7) {
		for _, dues := range [][]int{{0, 1, 2, 3, 4, 5, 6}, {1, 1, 1, 1, 1, 1, 1}, {2, 2, 1, 1, 1, 0, 0}} {
			b := newBoth(t)
			for _, i := range list {
				b.put(dues[i], i)
				b.asks()
			}
			b.drain()
		}
	}
}

// TestP13_1DropFromEachOrder puts six items in each order, drops each one of them, and pops the others.
func TestP13_1DropFromEachOrder(t *testing.T) {
	for _, list := range orders(6) {
		for stamp := range 6 {
			b := newBoth(t)
			for _, i := range list {
				b.put(i/2, i)
			}
			b.drop(stamp)
			b.drop(stamp)
			b.drop(6)
			b.drain()
		}
	}
}

// TestP13_1DropInEachOrder drops six items in each order, and puts them again, each to end at another time.
func TestP13_1DropInEachOrder(t *testing.T) {
	for _, list := range orders(6) {
		b := newBoth(t)
		for i := range 6 {
			b.put(i*5%6, 2*i+1)
		}
		for _, i := range list {
			b.drop(2 * i)
			b.drop(2*i + 1)
			b.drop(2*i + 1)
			b.asks()
		}
		for _, i := range list {
			b.put(5-i, 2*i+1)
		}
		b.drain()
	}
}

// TestP13_1EachCall does five calls in each order, on three stamps and two times, and pops what is left.
func TestP13_1EachCall(t *testing.T) {
	const stamps, dues, calls = 3, 2, 5
	const kinds = stamps*dues + stamps + dues + 1
	all := 1
	for range calls {
		all *= kinds
	}
	for number := range all {
		b := newBoth(t)
		for left, i := number, 0; i < calls; i++ {
			kind := left % kinds
			left /= kinds
			if kind < stamps*dues {
				b.put(1+kind/stamps, 1+kind%stamps)
			} else if kind -= stamps * dues; kind < stamps {
				b.drop(1 + kind)
			} else {
				b.pop(kind - stamps)
			}
			b.asks()
		}
		b.drain()
	}
}

// TestP13_1OneStampTwice holds what the chapter tells of two of one stamp: both are there, and go one by one.
func TestP13_1OneStampTwice(t *testing.T) {
	for _, due := range []int{3, 5} {
		for _, drops := range []int{0, 1, 2} {
			q := &queue.Queue{}
			one, other := item(5, 4), queue.Item{Due: due, Stamp: 4}
			q.Put(item(9, 8))
			q.Put(one)
			q.Put(other)
			for range drops {
				if !q.Drop(4) {
					t.Errorf("of Due %d: Drop", due)
				}
			}
			var popped []queue.Item
			for x, is := q.Pop(5); is; x, is = q.Pop(5) {
				if (x != one && x != other) || slices.Contains(popped, x) {
					t.Errorf("of Due %d: %+v", due, x)
				}
				popped = append(popped, x)
			}
			if len(popped) != 2-drops || q.Drop(4) || q.Len() != 1 {
				t.Errorf("of Due %d, %d dropped: %+v, and %d are left", due, drops, popped, q.Len())
			}
		}
	}
}

func TestP13_1QueuesKnowNothingOfOneAnother(t *testing.T) {
	a, b := newBoth(t), newBoth(t)
	for i := range 40 {
		a.put(i*7%10, i)
		b.asks()
		b.put(-i, i)
		a.asks()
	}
	for i := range 20 {
		a.drop(i)
		b.asks()
		a.pop(9)
		b.asks()
	}
	a.drain()
	b.drain()
}

// TestP13_1AskingChangesNothing asks between all calls in one queue, and never in another one: both tell the same.
func TestP13_1AskingChangesNothing(t *testing.T) {
	random := rand.New(rand.NewSource(13))
	asked, silent := newBoth(t), newBoth(t)
	for i := range 3000 {
		due, stamp := random.Intn(20), random.Intn(60)
		switch random.Intn(4) {
		case 0:
			asked.drop(stamp)
			silent.drop(stamp)
		case 1:
			asked.pop(due)
			silent.pop(due)
		default:
			asked.put(due, stamp)
			silent.put(due, stamp)
		}
		for range 3 {
			asked.queue.First()
			asked.queue.Len()
			asked.queue.Pop(-1)
			asked.queue.Drop(60 + i)
		}
	}
	asked.drain()
	silent.drain()
}

// TestP13_1ComeAndGo has few items at a time, but many in all: as the clock goes on some end, and some are dropped ahead of it.
func TestP13_1ComeAndGo(t *testing.T) {
	for _, stay := range []int{1, 2, 3, 8, 9, 96} {
		b := newBoth(t)
		for now := range 2000 {
			b.put(now+stay*(now%5)/2, 1+now)
			if now%7 == 0 {
				b.drop(1 + now - stay)
			}
			for b.pop(now) {
				b.asks()
			}
			b.asks()
		}
		b.drain()
	}
}

// TestP13_1EveryOrder does what comes, on few stamps and on many, and holds all answers against the model's.
func TestP13_1EveryOrder(t *testing.T) {
	for seed := range int64(300) {
		random := rand.New(rand.NewSource(seed))
		stamps := make([]int, []int{1, 2, 5, 12, 40, 150}[seed%6])
		for i := range stamps {
			stamps[i] = int(random.Uint64() >> random.Intn(64))
			if seed%2 == 0 {
				stamps[i] = random.Intn(2*len(stamps)) - len(stamps)/2
			}
		}
		stamp := func() int { return stamps[random.Intn(len(stamps))] }
		time := func() int { return random.Intn(30) - 5 }
		if seed%3 == 0 {
			time = func() int { return int(random.Uint64() >> random.Intn(64)) }
		}
		b := newBoth(t)
		for i := range 500 {
			// Items come for some time, and then go.
			switch kind := random.Intn(8); {
			case kind < 2+4*(i/100%2) && kind%2 == 0:
				b.drop(stamp())
			case kind < 2+4*(i/100%2):
				b.pop(time())
			default:
				b.put(time(), stamp())
			}
			b.asks()
		}
		b.drain()
	}
}

// TestP13_2VeryMany has more items than the model could search: put in many ways, some dropped, all others pop in order, each once.
func TestP13_2VeryMany(t *testing.T) {
	const n = 1 << 13
	for what, due := range map[string]func(i int) int{
		"rising":    func(i int) int { return i },
		"falling":   func(i int) int { return n - i },
		"by turns":  func(i int) int { return (1 - i%2*2) * i },
		"in steps":  func(i int) int { return (i - n/2) << 50 },
		"scattered": func(i int) int { return i * 4099 % n },
		"few":       func(i int) int { return i % 7 },
		"one":       func(int) int { return 5 },
	} {
		q := &queue.Queue{}
		var want []queue.Item
		for i := range n {
			x := item(due(i), i*2731%n)
			q.Put(x)
			if x.Stamp%3 != 0 {
				want = append(want, x)
			}
		}
		for stamp := 0; stamp < n; stamp += 3 {
			if !q.Drop(stamp) {
				t.Fatalf("%s: %d isn't there", what, stamp)
			}
		}
		slices.SortFunc(want, func(x, y queue.Item) int {
			if isAhead(x, y) {
				return -1
			}
			return 1
		})
		var got []queue.Item
		for x, is := q.Pop(math.MaxInt); is; x, is = q.Pop(math.MaxInt) {
			got = append(got, x)
		}
		if !slices.Equal(got, want) || q.Len() != 0 {
			t.Errorf("%s: %d popped, %d should have, %d are left", what, len(got), len(want), q.Len())
		}
	}
}

// TestP13_2NothingIsLost lets items come while others go, and counts: each was put once, and popped once, or dropped once, or is there to the end.
func TestP13_2NothingIsLost(t *testing.T) {
	for seed := range int64(100) {
		random := rand.New(rand.NewSource(seed))
		q := &queue.Queue{}
		put, popped, dropped := map[queue.Item]int{}, map[queue.Item]int{}, map[queue.Item]int{}
		var there []queue.Item
		for stamp := range 600 {
			x := item(random.Intn(1+int(seed)), stamp+1)
			q.Put(x)
			put[x]++
			there = append(there, x)
			if random.Intn(3) == 0 {
				i := random.Intn(len(there))
				if !q.Drop(there[i].Stamp) {
					t.Fatalf("%+v isn't there", there[i])
				}
				dropped[there[i]]++
				there = slices.Delete(there, i, i+1)
			}
			if y, is := q.Pop(random.Intn(20)); is {
				popped[y]++
				there = slices.DeleteFunc(there, func(x queue.Item) bool { return x == y })
			}
		}
		for x, is := q.Pop(math.MaxInt); is; x, is = q.Pop(math.MaxInt) {
			popped[x]++
		}
		for x := range put {
			if put[x] != 1 || popped[x]+dropped[x] != 1 {
				t.Fatalf("%+v: put %d times, popped %d, dropped %d", x, put[x], popped[x], dropped[x])
			}
		}
		if len(popped)+len(dropped) != len(put) || q.Len() != 0 {
			t.Fatalf("%d popped, %d dropped, of %d; %d are left", len(popped), len(dropped), len(put), q.Len())
		}
	}
}

// TestP13_2InOrder pops up to times that rise: all that pops is in order, none too late, and each at the first time asked for that isn't ahead of its own.
func TestP13_2InOrder(t *testing.T) {
	for seed := range int64(100) {
		random := rand.New(rand.NewSource(seed))
		q := &queue.Queue{}
		const n = 200
		for _, i := range random.Perm(n) {
			q.Put(item(random.Intn(60), i))
		}
		last, count, ahead := queue.Item{Due: -1}, 0, -1
		for now := 0; now < 70; now += random.Intn(5) + 1 {
			for x, is := q.Pop(now); is; x, is = q.Pop(now) {
				if !isAhead(last, x) || x.Due > now || x.Due <= ahead {
					t.Fatalf("between %d and %d: %+v behind %+v", ahead, now, x, last)
				}
				last = x
				count++
			}
			ahead = now
		}
		if count != n || q.Len() != 0 {
			t.Fatalf("%d popped, and %d are left", count, q.Len())
		}
	}
}
