package probe_test

import (
	"math"
	"math/rand"
	"testing"

	"bondstore/api"
	"bondstore/probe"
)

// mostNum is the greatest number of 128 bits.
var mostNum = api.Num{Hi: math.MaxUint64, Lo: math.MaxUint64}

// lo and hi are names of a lower, and of a higher word alone.
func lo(n int) api.Num { return api.Num{Lo: uint64(n)} }

func hi(n int) api.Num { return api.Num{Hi: uint64(n)} }

// nums are names at which a word turns, each bit by itself and each left out, and others that are alike in a word.
func nums() []api.Num {
	list := []api.Num{
		{}, mostNum, {Lo: 3}, {Hi: 3}, {Lo: 5}, {Hi: 5}, {Hi: 3, Lo: 5}, {Hi: 5, Lo: 3}, {Hi: 3, Lo: 3}, {Hi: 5, Lo: 5},
		{Lo: math.MaxUint64}, {Hi: math.MaxUint64}, {Hi: 1, Lo: 1}, {Hi: 1, Lo: math.MaxUint64}, {Hi: math.MaxUint64, Lo: 1},
		{Hi: 0x0102030405060708, Lo: 0x090a0b0c0d0e0f10}, {Hi: 0x090a0b0c0d0e0f10, Lo: 0x0102030405060708},
	}
	for bit := range 64 {
		list = append(list, api.Num{Lo: 1 << bit}, api.Num{Hi: 1 << bit})
		list = append(list, api.Num{Hi: math.MaxUint64, Lo: ^(1 << bit)}, api.Num{Hi: ^(1 << bit), Lo: math.MaxUint64})
	}
	return list
}

// places are numbers at which a sign, a bit or a size turns.
func places() []int {
	list := []int{0, -1, 3, -3, math.MaxInt, math.MaxInt - 1, math.MinInt, math.MinInt + 1}
	for bit := range 63 {
		list = append(list, 1<<bit, -1<<bit)
	}
	return list
}

// model is a table as the chapter tells it, the greatest number of names that there ever was, too.
type model struct {
	at   map[api.Num]int
	most int
}

func newModel() *model { return &model{at: map[api.Num]int{}} }

func (m *model) put(k api.Num, at int) bool {
	_, is := m.at[k]
	m.at[k] = at
	m.most = max(m.most, len(m.at))
	return !is
}

func (m *model) drop(k api.Num) bool {
	_, is := m.at[k]
	delete(m.at, k)
	return is
}

// pair is a table, and what it should be.
type pair struct {
	t     *testing.T
	table *probe.Table
	model *model
}

func newPair(t *testing.T) *pair { return &pair{t, probe.New(), newModel()} }

func (p *pair) put(k api.Num, at int) {
	p.t.Helper()
	if got, want := p.table.Put(k, at), p.model.put(k, at); got != want {
		p.t.Fatalf("Put(%x, %d): %v", k, at, got)
	}
	p.counts()
}

func (p *pair) drop(k api.Num) {
	p.t.Helper()
	if got, want := p.table.Drop(k), p.model.drop(k); got != want {
		p.t.Fatalf("Drop(%x): %v", k, got)
	}
	p.counts()
}

func (p *pair) get(k api.Num) {
	p.t.Helper()
	at, is := p.table.Get(k)
	if want, wantIs := p.model.at[k]; at != want || is != wantIs {
		p.t.Fatalf("Get(%x): %d, %v; not %d, %v", k, at, is, want, wantIs)
	}
}

// gets asks for each of some names.
func (p *pair) gets(names []api.Num) {
	p.t.Helper()
	for _, k := range names {
		p.get(k)
	}
}

// counts holds the numbers of names and cells against the chapter's; each name lies in a cell of its own.
func (p *pair) counts() {
	p.t.Helper()
	if n, want := p.table.Len(), len(p.model.at); n != want {
		p.t.Fatalf("%d names, not %d", n, want)
	}
	if n, most := p.table.Cells(), max(16, 8*(p.model.most+1)); n < len(p.model.at) || n > most {
		p.t.Fatalf("%d cells, of %d names, and of at most %d ahead", n, len(p.model.at), p.model.most)
	}
}

func TestP11_1Example(t *testing.T) {
	x := probe.New()
	first, second := x.Put(lo(5), 1), x.Put(lo(5), 2)
	if at, is := x.Get(lo(5)); !first || second || at != 2 || !is {
		t.Errorf("%v, %v; %d, %v", first, second, at, is)
	}
}

func TestP11_1New(t *testing.T) {
	p := newPair(t)
	p.counts()
	p.gets(nums())
	for _, k := range nums() {
		p.drop(k)
	}
	p.gets(nums())
}

func TestP11_1NilTable(t *testing.T) {
	var x *probe.Table
	for range 2 {
		for _, k := range nums() {
			for _, n := range []int{0, 1, -1, math.MinInt, math.MaxInt} {
				if x.Put(k, n) {
					t.Errorf("Put(%x, %d)", k, n)
				}
			}
			if at, is := x.Get(k); at != 0 || is {
				t.Errorf("Get(%x): %d, %v", k, at, is)
			}
			if x.Drop(k) {
				t.Errorf("Drop(%x)", k)
			}
			if x.Len() != 0 || x.Cells() != 0 {
				t.Errorf("%d names, %d cells", x.Len(), x.Cells())
			}
		}
	}
}

// TestP11_1OneName takes each name alone through all that can happen to it.
func TestP11_1OneName(t *testing.T) {
	for _, k := range nums() {
		p := newPair(t)
		for at := range 3 {
			p.drop(k)
			p.put(k, at+7)
			p.get(k)
			p.put(k, at-7)
			p.get(k)
			p.put(k, at-7)
			p.gets(nums())
			p.drop(k)
			p.get(k)
		}
		p.gets(nums())
	}
}

func TestP11_1EachPlace(t *testing.T) {
	p := newPair(t)
	for i, at := range places() {
		p.put(lo(1), at)
		p.get(lo(1))
		p.put(hi(i), at)
	}
	for i := range places() {
		p.get(hi(i))
	}
}

// TestP11_1ManyAtOnePlace: places are not names; many may be one.
func TestP11_1ManyAtOnePlace(t *testing.T) {
	p := newPair(t)
	for _, k := range nums() {
		p.put(k, 9)
	}
	p.gets(nums())
	p.drop(nums()[0])
	p.gets(nums())
}

// TestP11_1TwoNames has each two of the names, which are alike in all but a bit, or in a word.
func TestP11_1TwoNames(t *testing.T) {
	list := nums()
	for i, a := range list {
		for j, b := range list {
			if i == j {
				continue
			}
			p := newPair(t)
			p.put(a, 1)
			p.get(b)
			p.drop(b)
			p.put(b, 2)
			p.gets([]api.Num{a, b})
			p.drop(a)
			p.put(b, 3)
			p.gets([]api.Num{a, b})
			p.put(a, 4)
			p.drop(b)
			p.gets([]api.Num{a, b})
			p.drop(a)
			p.gets([]api.Num{a, b})
		}
	}
}

// TestP11_1ThreeNames has each three of some names, so many that of the few cells at first some are wanted by all three.
func TestP11_1ThreeNames(t *testing.T) {
	const n = 40
	for i := range n {
		for j := range i {
			for k := range j {
				names := []api.Num{lo(i), lo(j), lo(k)}
				p := newPair(t)
				for at, name := range names {
					p.put(name, at)
				}
				p.drop(names[0])
				p.gets(names)
				// It is there still, behind the one that was dropped, and mustn't be there twice.
				p.put(names[2], 3)
				p.put(names[1], 4)
				p.gets(names)
				p.drop(names[2])
				p.gets(names)
				p.put(names[0], 5)
				p.drop(names[1])
				p.drop(names[1])
				p.gets(names)
			}
		}
	}
}

// TestP11_1EachCall puts and drops three names in each order of six calls, and asks for all of them behind each call.
func TestP11_1EachCall(t *testing.T) {
	const names, kinds, calls = 3, 2, 6
	all := 1
	for range calls {
		all *= names * kinds
	}
	list := []api.Num{lo(1), lo(2), hi(1)}
	for number := range all {
		p := newPair(t)
		for left, i := number, 0; i < calls; i++ {
			k := list[left%names]
			left /= names
			if left%kinds == 0 {
				p.put(k, i+1)
			} else {
				p.drop(k)
			}
			left /= kinds
			p.gets(list)
		}
	}
}

// TestP11_1CellsOfEachMost puts names one by one, drops all and puts others, for each number of names.
func TestP11_1CellsOfEachMost(t *testing.T) {
	for most := range 130 {
		p := newPair(t)
		for round := range 4 {
			for i := range most {
				p.put(lo(1000*round+i), i)
			}
			for i := range most {
				p.put(lo(1000*round+i), -i)
				p.get(lo(1000*round + i))
			}
			for i := range most {
				p.drop(lo(1000*round + i))
			}
		}
	}
}

// TestP11_1CellsOfManyDropped has few names at a time, but very many in all: those that were dropped need no cells.
func TestP11_1CellsOfManyDropped(t *testing.T) {
	for _, stay := range []int{0, 1, 2, 6, 7, 8, 15, 16, 17, 100} {
		p := newPair(t)
		for i := range stay {
			p.put(hi(i), i)
		}
		for i := range 20000 {
			p.put(lo(1+i), i)
			p.get(lo(1 + i))
			p.drop(lo(1 + i))
			p.get(hi(i % (stay + 1)))
		}
		for i := range stay {
			p.get(hi(i))
		}
	}
}

// TestP11_1CellsOfInTurn drops the eldest of some names each time that one more is put.
func TestP11_1CellsOfInTurn(t *testing.T) {
	for _, stay := range []int{1, 2, 3, 7, 8, 9, 31, 32, 33, 96} {
		p := newPair(t)
		for i := range 5000 {
			p.put(lo(i), i)
			if i >= stay {
				p.get(lo(i - stay))
				p.drop(lo(i - stay))
			}
			p.get(lo(i - stay/2))
		}
	}
}

// TestP11_1PutAgainAndAgain puts names that are there: nothing more is there by that.
func TestP11_1PutAgainAndAgain(t *testing.T) {
	for _, n := range []int{1, 7, 8, 9, 15, 16, 17, 32, 33} {
		p := newPair(t)
		for i := range 3000 {
			p.put(lo(i%n), i)
			p.get(lo(i % n))
		}
	}
}

// TestP11_1AskingChangesNothing asks between all calls in one table, and never in another one: both tell the same.
func TestP11_1AskingChangesNothing(t *testing.T) {
	random := rand.New(rand.NewSource(11))
	asked, silent := probe.New(), probe.New()
	for i := range 3000 {
		k := lo(random.Intn(60))
		if random.Intn(3) == 0 {
			asked.Drop(k)
			silent.Drop(k)
		} else {
			asked.Put(k, i)
			silent.Put(k, i)
		}
		for range 3 {
			for k := range 62 {
				asked.Get(lo(k))
			}
			asked.Drop(hi(1 + i))
			if asked.Len() != silent.Len() || asked.Cells() != silent.Cells() {
				t.Fatalf("%d, %d; %d, %d", asked.Len(), silent.Len(), asked.Cells(), silent.Cells())
			}
		}
	}
	for k := range 62 {
		at, is := asked.Get(lo(k))
		if want, wantIs := silent.Get(lo(k)); at != want || is != wantIs {
			t.Errorf("%d: %d, %v; not %d, %v", k, at, is, want, wantIs)
		}
	}
}

func TestP11_1TablesKnowNothingOfOneAnother(t *testing.T) {
	p, q := newPair(t), newPair(t)
	for i := range 40 {
		p.put(lo(i), i)
		q.get(lo(i))
		q.put(lo(i), -i)
		p.get(lo(i))
	}
	for i := range 40 {
		p.drop(lo(i))
		q.get(lo(i))
	}
	p.counts()
	q.counts()
}

// shapes are rules by which many names may come.
func shapes() map[string]func(i int) api.Num {
	return map[string]func(i int) api.Num{
		"in a row":          func(i int) api.Num { return api.Num{Lo: uint64(i)} },
		"falling":           func(i int) api.Num { return api.Num{Hi: math.MaxUint64, Lo: math.MaxUint64 - uint64(i)} },
		"in the higher":     func(i int) api.Num { return api.Num{Hi: uint64(i)} },
		"both alike":        func(i int) api.Num { return api.Num{Hi: uint64(i), Lo: uint64(i)} },
		"both against":      func(i int) api.Num { return api.Num{Hi: uint64(i), Lo: -uint64(i)} },
		"in steps":          func(i int) api.Num { return api.Num{Lo: uint64(i) << 32} },
		"in great steps":    func(i int) api.Num { return api.Num{Lo: uint64(i) << 47} },
		"in greatest steps": func(i int) api.Num { return api.Num{Hi: uint64(i) << 47} },
		"of a square":       func(i int) api.Num { return api.Num{Hi: uint64(i % 300), Lo: uint64(i / 300)} },
		"of steps in both":  func(i int) api.Num { return api.Num{Hi: uint64(i%300) << 55, Lo: uint64(i/300) << 55} },
	}
}

// TestP11_1VeryMany puts, changes and drops names of each shape.
func TestP11_1VeryMany(t *testing.T) {
	const n = 1 << 14
	for what, name := range shapes() {
		p := newPair(t)
		for i := range n {
			p.put(name(i), i)
		}
		for i := range n {
			p.get(name(i))
			if i%3 == 0 {
				p.drop(name(i))
			} else if i%3 == 1 {
				p.put(name(i), -i)
			}
		}
		for i := range n {
			p.get(name(i))
		}
		for i := range n {
			p.drop(name(i))
		}
		if p.table.Len() != 0 {
			t.Errorf("%s: %d are left", what, p.table.Len())
		}
	}
}

// TestP11_1EveryOrder does what comes, on few names and on many, and holds all answers against the model's.
func TestP11_1EveryOrder(t *testing.T) {
	for seed := range int64(400) {
		random := rand.New(rand.NewSource(seed))
		names := make([]api.Num, []int{1, 2, 5, 12, 20, 40, 150}[seed%7])
		for i := range names {
			names[i] = api.Num{Hi: random.Uint64() >> random.Intn(65), Lo: random.Uint64() >> random.Intn(65)}
		}
		p := newPair(t)
		for i := range 1500 {
			k := names[random.Intn(len(names))]
			// Names come for some time, and then go.
			if random.Intn(8) < 2+4*(i/250%2) {
				p.drop(k)
			} else {
				p.put(k, random.Intn(100)-50)
			}
			p.get(names[random.Intn(len(names))])
			if i%50 == 0 {
				p.gets(names)
			}
		}
		p.gets(names)
	}
}

// orders answers all orders of the numbers below n.
func orders(n int) [][]int {
	if n == 0 {
		return [][]int{{}}
	}
	var list [][]int
	for _, order := range orders(n - 1) {
		for i := range n {
			next := append(append(append([]int{}, order[:i]...), n-1), order[i:]...)
			list = append(list, next)
		}
	}
	return list
}

// TestP11_2DroppedInEachOrder drops six names in each order: those that are left are where they were.
func TestP11_2DroppedInEachOrder(t *testing.T) {
	for first := range 6 {
		for _, order := range orders(6) {
			x := probe.New()
			for i := range 6 {
				x.Put(lo(6*first+i), 100+i)
			}
			for done, gone := range order {
				x.Drop(lo(6*first + gone))
				for _, i := range order[done+1:] {
					if at, is := x.Get(lo(6*first + i)); at != 100+i || !is {
						t.Fatalf("%v: %d behind %d: %d, %v", order, i, gone, at, is)
					}
				}
			}
		}
	}
}

// TestP11_2PutInEachOrder puts six names in each order, and then each one anew: the others stay.
func TestP11_2PutInEachOrder(t *testing.T) {
	for first := range 6 {
		for _, order := range orders(6) {
			x := probe.New()
			var places [6]int
			for round := range 3 {
				for _, i := range order {
					places[i] = 10*round + i + 1
					x.Put(lo(6*first+i), places[i])
					for j, want := range places {
						if at, is := x.Get(lo(6*first + j)); at != want || is != (want != 0) {
							t.Fatalf("%v: %d: %d, %v; not %d", order, j, at, is, want)
						}
					}
				}
			}
		}
	}
}

// TestP11_2OneStays has a name that is put once; whatever comes and goes of others, it stays.
func TestP11_2OneStays(t *testing.T) {
	list := nums()
	for seed, k := range list {
		random := rand.New(rand.NewSource(int64(seed)))
		x := probe.New()
		// Others are there ahead of it, and some of them are dropped behind it.
		for i := range seed % 40 {
			x.Put(list[(seed+1+i)%len(list)], i)
		}
		x.Put(k, 12345)
		for range 2000 {
			other := list[random.Intn(len(list))]
			if other == k {
				continue
			}
			if random.Intn(2) == 0 {
				x.Put(other, random.Int())
			} else {
				x.Drop(other)
			}
			if at, is := x.Get(k); at != 12345 || !is {
				t.Fatalf("%x: %d, %v", k, at, is)
			}
		}
	}
}

// TestP11_2OneIsGone has a name that was dropped; whatever comes and goes of others, it isn't there any more.
func TestP11_2OneIsGone(t *testing.T) {
	list := nums()
	for seed, k := range list {
		random := rand.New(rand.NewSource(int64(seed)))
		x := probe.New()
		for i := range seed % 40 {
			x.Put(list[(seed+1+i)%len(list)], i)
		}
		x.Put(k, 12345)
		x.Put(k, 12346)
		x.Drop(k)
		for range 2000 {
			other := list[random.Intn(len(list))]
			if other == k {
				continue
			}
			if random.Intn(2) == 0 {
				x.Put(other, random.Int())
			} else {
				x.Drop(other)
			}
			if at, is := x.Get(k); at != 0 || is {
				t.Fatalf("%x: %d, %v", k, at, is)
			}
		}
	}
}

// TestP11_2MoreAndFewer puts so many others that the cells are laid anew, and drops them, again and again: some names stay.
func TestP11_2MoreAndFewer(t *testing.T) {
	const stay = 10
	for _, others := range []int{1, 5, 8, 16, 40, 100, 1000} {
		x := probe.New()
		for i := range stay {
			x.Put(hi(i), 70+i)
		}
		for round := range 6 {
			for i := range others {
				x.Put(lo(1+2000*round+i), 1)
			}
			for i := range others {
				x.Drop(lo(1 + 2000*round + i))
			}
			// One of them is put anew each time.
			x.Put(hi(round), 80+round)
			for i := range stay {
				want := 70 + i
				if i <= round {
					want = 80 + i
				}
				if at, is := x.Get(hi(i)); at != want || !is {
					t.Fatalf("%d others, %d: %d, %v; not %d", others, i, at, is, want)
				}
			}
			if x.Len() != stay {
				t.Fatalf("%d names", x.Len())
			}
		}
	}
}
