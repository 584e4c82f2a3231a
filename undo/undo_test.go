package undo_test

import (
	"errors"
	"math"
	"math/rand"
	"reflect"
	"runtime"
	"slices"
	"testing"
	"weak"

	"bondstore/api"
	"bondstore/undo"
)

// numbers are places and marks at which a sign, a bit or a size turns.
func numbers() []int {
	list := []int{0, 3, -3, math.MaxInt, math.MaxInt - 1, math.MinInt, math.MinInt + 1}
	for bit := range 63 {
		list = append(list, 1<<bit, -1<<bit)
	}
	return list
}

// change is one as the chapter tells it: how all lists stood ahead of it, and what Keep was told, 0 of a list's own.
type change struct {
	ahead [][]int
	kept  int
}

// model is a log and its lists, read otherwise than by what takes changes back.
type model struct {
	lists   [][]int
	changes []change
	called  []int
}

func (m *model) snapshot() [][]int {
	var all [][]int
	for _, l := range m.lists {
		all = append(all, slices.Clone(l))
	}
	return all
}

func (m *model) keep(n int) { m.changes = append(m.changes, change{m.snapshot(), n}) }

func (m *model) add(which, x int) int {
	m.keep(0)
	m.lists[which] = append(m.lists[which], x)
	return len(m.lists[which]) - 1
}

func (m *model) set(which, i, x int) bool {
	if i < 0 || i >= len(m.lists[which]) {
		return false
	}
	m.keep(0)
	m.lists[which][i] = x
	return true
}

func (m *model) back(mark int) {
	if mark < 0 {
		mark = 0
	}
	if mark >= len(m.changes) {
		return
	}
	for i := len(m.changes); i > mark; i-- {
		if n := m.changes[i-1].kept; n != 0 {
			m.called = append(m.called, n)
		}
	}
	m.lists = m.changes[mark].ahead
	m.changes = m.changes[:mark]
}

func (m *model) clear() { m.changes = nil }

// both is a log with some lists, and what they should be.
type both struct {
	t      *testing.T
	log    *undo.Log
	lists  []*undo.List[int]
	called []int
	model  *model
}

func newBoth(t *testing.T, lists int) *both {
	b := &both{t: t, log: &undo.Log{}, model: &model{lists: make([][]int, lists)}}
	for range lists {
		b.lists = append(b.lists, undo.Of[int](b.log))
	}
	return b
}

func (b *both) add(which, x int) {
	b.t.Helper()
	if got, want := b.lists[which].Add(x), b.model.add(which, x); got != want {
		b.t.Fatalf("Add: %d, not %d", got, want)
	}
}

func (b *both) set(which, i, x int) {
	b.t.Helper()
	if got, want := b.lists[which].Set(i, x), b.model.set(which, i, x); got != want {
		b.t.Fatalf("Set(%d): %v", i, got)
	}
}

func (b *both) keep(n int) {
	b.log.Keep(func() { b.called = append(b.called, n) })
	b.model.keep(n)
}

func (b *both) back(mark int) {
	b.log.Back(mark)
	b.model.back(mark)
}

func (b *both) clear() {
	b.log.Clear()
	b.model.clear()
}

// asks asks for all that can be asked.
func (b *both) asks() {
	b.t.Helper()
	if got, want := b.log.Mark(), len(b.model.changes); got != want {
		b.t.Fatalf("Mark: %d, not %d", got, want)
	}
	if !slices.Equal(b.called, b.model.called) {
		b.t.Fatalf("called %v, not %v", b.called, b.model.called)
	}
	for which, l := range b.lists {
		want := b.model.lists[which]
		if got := l.All(); !slices.Equal(got, want) || l.Len() != len(want) {
			b.t.Fatalf("list %d: %v, of %d items, not %v", which, got, l.Len(), want)
		}
		for i := -1; i <= len(want); i++ {
			x, is := l.At(i)
			if should := i >= 0 && i < len(want); is != should || is && x != want[i] || !is && x != 0 {
				b.t.Fatalf("list %d: At(%d): %d, %v of %v", which, i, x, is, want)
			}
		}
	}
}

func TestP14_1Example(t *testing.T) {
	log := &undo.Log{}
	l := undo.Of[int](log)
	first := l.Add(1)
	m := log.Mark()
	second := l.Add(2)
	was := l.Set(0, 3)
	if all := l.All(); first != 0 || m != 1 || second != 1 || !was || log.Mark() != 3 || !slices.Equal(all, []int{3, 2}) {
		t.Errorf("%d, %d, %d, %v, %d, %v", first, m, second, was, log.Mark(), all)
	}
	log.Back(m)
	if all := l.All(); log.Mark() != 1 || !slices.Equal(all, []int{1}) {
		t.Errorf("%d, %v", log.Mark(), all)
	}
}

func TestP14_1NilLog(t *testing.T) {
	var log *undo.Log
	for range 2 {
		log.Keep(func() { t.Error("a nil log keeps") })
		log.Keep(nil)
		if n := log.Mark(); n != 0 {
			t.Errorf("Mark: %d", n)
		}
		for _, n := range numbers() {
			log.Back(n)
		}
		log.Clear()
	}
}

func TestP14_1NilList(t *testing.T) {
	var l *undo.List[string]
	for range 2 {
		for _, n := range numbers() {
			if x, is := l.At(n); x != "" || is {
				t.Errorf("At(%d): %q, %v", n, x, is)
			}
			if l.Set(n, "a") {
				t.Errorf("Set(%d)", n)
			}
		}
		if i := l.Add("a"); i != -1 || l.Len() != 0 || len(l.All()) != 0 {
			t.Errorf("Add: %d, and then %d items, %v", i, l.Len(), l.All())
		}
	}
}

// TestP14_1EmptyLog asks logs of no changes, or of none any more.
func TestP14_1EmptyLog(t *testing.T) {
	var plain undo.Log
	back, cleared := &undo.Log{}, &undo.Log{}
	for range 9 {
		back.Keep(func() {})
		cleared.Keep(func() { t.Error("it was cleared") })
	}
	back.Back(0)
	cleared.Clear()
	for _, log := range []*undo.Log{{}, new(undo.Log), &plain, back, cleared} {
		for _, n := range numbers() {
			log.Back(n)
			log.Clear()
			if log.Mark() != 0 {
				t.Errorf("behind Back(%d): %d", n, log.Mark())
			}
		}
		called := 0
		log.Keep(func() { called++ })
		if log.Mark() != 1 {
			t.Errorf("%d changes, not 1", log.Mark())
		}
		log.Back(0)
		if called != 1 || log.Mark() != 0 {
			t.Errorf("called %d times, %d changes", called, log.Mark())
		}
	}
}

// TestP14_1NoLog has a list of no log: nothing takes its changes back.
func TestP14_1NoLog(t *testing.T) {
	other := &undo.Log{}
	l := undo.Of[int](nil)
	for i := range 20 {
		if at := l.Add(i); at != i {
			t.Errorf("Add: %d, not %d", at, i)
		}
		if !l.Set(i/2, 100+i) || l.Set(i+1, 5) || l.Set(-1, 5) {
			t.Errorf("Set of %d items", i+1)
		}
		var none *undo.Log
		none.Back(0)
		other.Back(0)
		if other.Mark() != 0 || l.Len() != i+1 {
			t.Errorf("%d, %d", other.Mark(), l.Len())
		}
	}
	for i := range 20 {
		want := i
		if i < 10 {
			want = 100 + 2*i + 1
		}
		if x, is := l.At(i); x != want || !is {
			t.Errorf("At(%d): %d, %v, not %d", i, x, is, want)
		}
	}
}

// TestP14_1Places asks lists of few and of many items at each place: those beyond have no item, and Set of them is no change.
func TestP14_1Places(t *testing.T) {
	for _, size := range []int{0, 1, 2, 3, 4, 5, 7, 8, 9, 16, 31, 32, 33, 96} {
		b := newBoth(t, 1)
		for i := range size {
			b.add(0, 7*i+1)
		}
		for _, i := range append(numbers(), size-1, size, size+1) {
			x, is := b.lists[0].At(i)
			if should := i >= 0 && i < size; is != should || should && x != 7*i+1 || !should && x != 0 {
				t.Errorf("of %d: At(%d): %d, %v", size, i, x, is)
			}
			b.set(0, i, -5)
			b.asks()
			if b.log.Mark() > size {
				b.back(size)
				b.asks()
			}
		}
	}
}

// TestP14_1RoomBehindIsNone takes items back, and then asks for their places: room that stays holds none.
func TestP14_1RoomBehindIsNone(t *testing.T) {
	for size := range 20 {
		for mark := range size {
			b := newBoth(t, 1)
			for i := range size {
				b.add(0, i+1)
			}
			b.back(mark)
			b.asks()
			for i := mark; i <= size; i++ {
				if x, is := b.lists[0].At(i); x != 0 || is || b.lists[0].Set(i, 9) {
					t.Errorf("%d of %d are left: At(%d): %d, %v", mark, size, i, x, is)
				}
			}
			if all := b.lists[0].All(); !slices.Equal(all, b.model.lists[0]) {
				t.Errorf("%v", all)
			}
			b.add(0, 5)
			b.asks()
		}
	}
}

// TestP14_1EachMark goes back to each mark of logs of few changes: what is to be called is called, each once, from the last one on.
func TestP14_1EachMark(t *testing.T) {
	for size := range 12 {
		for _, mark := range append(numbers(), 4, 5, 6, 7, 9, 10, 11, size-1, size, size+1) {
			b := newBoth(t, 0)
			for i := range size {
				b.keep(i + 1)
			}
			b.back(mark)
			b.asks()
			var want []int
			for i := size; i > max(mark, 0); i-- {
				want = append(want, i)
			}
			if !slices.Equal(b.called, want) {
				t.Errorf("Back(%d) of %d: %v, not %v", mark, size, b.called, want)
			}
			b.back(mark)
			b.asks()
			b.keep(99)
			b.asks()
			b.back(math.MinInt)
			b.asks()
		}
	}
}

// TestP14_1SameValueIsAChange sets to what is there already: a change as others are.
func TestP14_1SameValueIsAChange(t *testing.T) {
	for _, x := range []int{0, 5, -1} {
		b := newBoth(t, 1)
		b.add(0, x)
		for i := range 4 {
			b.set(0, 0, x)
			if b.log.Mark() != i+2 {
				t.Errorf("%d changes, not %d", b.log.Mark(), i+2)
			}
		}
		b.set(0, 0, 6)
		b.asks()
		for mark := 6; mark >= 0; mark-- {
			b.back(mark)
			b.asks()
		}
	}
}

// TestP14_1KeepAmongLists has changes of its own among those of lists, which see how these stand: as when they were kept.
func TestP14_1KeepAmongLists(t *testing.T) {
	log := &undo.Log{}
	l := undo.Of[int](log)
	called := 0
	for i := range 10 {
		want, mark := l.All(), log.Mark()
		log.Keep(func() {
			called++
			if got := l.All(); !slices.Equal(got, want) {
				t.Errorf("%v, not %v", got, want)
			}
		})
		l.Add(i)
		l.Set(i/2, 10*i)
		if log.Mark() != mark+3 {
			t.Errorf("%d changes, not %d", log.Mark(), mark+3)
		}
	}
	log.Back(2) // the first change, and the Add behind it, stay
	if called != 9 || !slices.Equal(l.All(), []int{0}) {
		t.Errorf("called %d times, %v", called, l.All())
	}
	log.Back(0)
	if called != 10 || l.Len() != 0 {
		t.Errorf("called %d times, %v", called, l.All())
	}
}

// TestP14_1Clear holds that nothing is called, no item changes, and marks begin at 0 again.
func TestP14_1Clear(t *testing.T) {
	for size := range 10 {
		for behind := range 5 {
			b := newBoth(t, 2)
			for i := range size {
				b.add(i%2, i)
				b.set(i%2, 0, -i)
				b.keep(i + 1)
			}
			b.clear()
			b.asks()
			b.clear()
			b.back(0)
			b.asks()
			for i := range behind {
				b.keep(100 + i)
				b.add(0, 50+i)
				b.set(0, 0, 60+i)
				b.set(1, 0, 70+i)
			}
			b.asks()
			b.back(2)
			b.asks()
			b.back(0)
			b.asks()
		}
	}
}

// TestP14_1EachCall does five calls in each order, on two lists of one log.
func TestP14_1EachCall(t *testing.T) {
	const kinds, calls = 10, 5
	all := 1
	for range calls {
		all *= kinds
	}
	for number := range all {
		b := newBoth(t, 2)
		for left, i := number, 0; i < calls; i++ {
			kind := left % kinds
			left /= kinds
			switch kind {
			case 0, 1:
				b.add(kind, 10+i)
			case 2, 3:
				b.set(kind-2, 0, 20+i)
			case 4:
				b.set(0, 1, 30+i)
			case 5:
				b.keep(1 + i)
			case 6, 7:
				b.back(kind - 6)
			case 8:
				b.back(b.log.Mark() - 1)
			default:
				b.clear()
			}
			b.asks()
		}
		b.back(0)
		b.asks()
	}
}

// TestP14_1EveryOrder does what comes, on few lists and on some more, and holds all answers against the model's.
func TestP14_1EveryOrder(t *testing.T) {
	for seed := range int64(200) {
		random := rand.New(rand.NewSource(seed))
		lists := 1 + int(seed%4)
		b := newBoth(t, lists)
		for i := range 400 {
			which := random.Intn(lists)
			switch random.Intn(16) {
			case 0:
				b.back(random.Intn(b.log.Mark()+3) - 1)
			case 1:
				b.back(b.log.Mark() - random.Intn(9))
			case 2:
				if i%5 == 0 {
					b.clear()
				}
			case 3, 4:
				b.keep(i + 1)
			case 5, 6, 7, 8:
				b.add(which, random.Int())
			default:
				b.set(which, random.Intn(b.lists[which].Len()+2)-1, random.Int())
			}
			b.asks()
		}
		for b.log.Mark() > 0 {
			b.back(b.log.Mark() - 1 - random.Intn(3))
			b.asks()
		}
	}
}

// holdsItems has a list of some type, to and fro.
func holdsItems[T any](t *testing.T, what string, items ...T) {
	t.Helper()
	var none T
	log := &undo.Log{}
	l := undo.Of[T](log)
	for i, x := range items {
		if at := l.Add(x); at != i {
			t.Errorf("%s: Add: %d, not %d", what, at, i)
		}
	}
	for i, x := range items {
		if !l.Set(i, none) {
			t.Errorf("%s: Set(%d)", what, i)
		}
		if got, is := l.At(i); !reflect.DeepEqual(got, none) || !is {
			t.Errorf("%s: At(%d): %v, %v", what, i, got, is)
		}
		log.Back(len(items))
		if got, is := l.At(i); !reflect.DeepEqual(got, x) || !is {
			t.Errorf("%s: At(%d): %v, %v, not %v", what, i, got, is, x)
		}
	}
	if got := l.All(); !reflect.DeepEqual(got, items) || l.Len() != len(items) {
		t.Errorf("%s: %v, not %v", what, got, items)
	}
	if got, is := l.At(len(items)); !reflect.DeepEqual(got, none) || is {
		t.Errorf("%s: At(%d): %v, %v", what, len(items), got, is)
	}
	log.Back(0)
	if got := l.All(); len(got) != 0 || l.Len() != 0 {
		t.Errorf("%s: %v", what, got)
	}
}

// TestP14_1EachType has lists of unlike types, of such whose items can't be compared, too.
func TestP14_1EachType(t *testing.T) {
	holdsItems(t, "int", 1, 0, -1, math.MaxInt, math.MinInt)
	holdsItems(t, "byte", byte(1), 0, 255)
	holdsItems(t, "bool", true, false, true)
	holdsItems(t, "string", "a", "", "\xff\x00", "a")
	holdsItems(t, "account", api.Account{Id: api.Num{Hi: 1, Lo: 2}, Ledger: 3}, api.Account{}, api.Account{Stamp: -1})
	holdsItems(t, "array", [3]int{1, 2, 3}, [3]int{})
	holdsItems(t, "empty", struct{}{}, struct{}{})
	holdsItems[[]int](t, "slice", []int{1}, nil, []int{}, []int{2, 3})
	holdsItems[map[int]string](t, "map", map[int]string{1: "a"}, nil, map[int]string{})
	holdsItems[error](t, "error", errors.New("a"), nil, errors.New("b"))
	holdsItems[any](t, "any", 1, nil, "a", []int{5}, 2.5)
	n := 5
	holdsItems[*int](t, "pointer", &n, nil, new(int))
	holdsItems[*undo.List[int]](t, "list", undo.Of[int](nil), nil)
}

// TestP14_1AnswersAreNew writes into what All answered, and holds that an answer doesn't change behind the call.
func TestP14_1AnswersAreNew(t *testing.T) {
	log := &undo.Log{}
	l := undo.Of[int](log)
	for i := range 40 {
		l.Add(i)
		answer := l.All()
		want := slices.Clone(answer)
		for j := range answer[:cap(answer)] {
			answer[:cap(answer)][j] = -7
		}
		if got := l.All(); !slices.Equal(got, want) {
			t.Fatalf("%v, not %v", got, want)
		}
		answer = l.All()
		mark := log.Mark()
		l.Set(i/2, 99)
		l.Add(98)
		_ = append(answer, 55, 56, 57)
		if x, _ := l.At(i + 1); x != 98 || !slices.Equal(answer, want) {
			t.Fatalf("%d, %v, not %v", x, answer, want)
		}
		log.Back(mark)
		l.Add(97)
		log.Back(mark)
		if !slices.Equal(answer, want) {
			t.Fatalf("%v, not %v", answer, want)
		}
	}
	answer := l.All()
	log.Back(0)
	for i, x := range answer {
		if x != i {
			t.Fatalf("item %d is %d", i, x)
		}
	}
}

// TestP14_1AskingChangesNothing asks between all calls of one log, and never of another one: both tell the same.
func TestP14_1AskingChangesNothing(t *testing.T) {
	random := rand.New(rand.NewSource(14))
	asked, silent := newBoth(t, 2), newBoth(t, 2)
	for i := range 2000 {
		which, place, kind := random.Intn(2), random.Intn(30), random.Intn(9)
		mark := max(asked.log.Mark()-place, 0)
		for _, b := range []*both{asked, silent} {
			switch kind {
			case 0:
				b.back(mark)
			case 1, 2:
				b.keep(i + 1)
			case 3, 4, 5:
				b.set(which, place, i)
			default:
				b.add(which, i)
			}
		}
		asked.asks()
		asked.log.Back(math.MaxInt)
		asked.log.Back(asked.log.Mark())
		asked.lists[0].Set(-1, 5)
		asked.lists[1].Set(asked.lists[1].Len(), 5)
	}
	silent.asks()
	silent.back(0)
	silent.asks()
}

func TestP14_1LogsKnowNothingOfOneAnother(t *testing.T) {
	a, b := newBoth(t, 2), newBoth(t, 2)
	for i := range 40 {
		a.add(i%2, i)
		b.asks()
		b.add(i%2, -i)
		b.set(i%2, 0, i)
		a.asks()
		a.keep(i + 1)
		b.keep(-i - 1)
	}
	a.back(30)
	b.asks()
	b.clear()
	a.asks()
	a.back(0)
	b.back(0)
	a.asks()
	b.asks()
}

// TestP14_1BackAsksInTheMidst has what takes a change back ask the log for others: each goes once, and all calls end.
func TestP14_1BackAsksInTheMidst(t *testing.T) {
	for what, ask := range map[string]func(log *undo.Log){
		"Back(0)":   func(log *undo.Log) { log.Back(0) },
		"Back(-1)":  func(log *undo.Log) { log.Back(-1) },
		"one":       func(log *undo.Log) { log.Back(log.Mark() - 1) },
		"none":      func(log *undo.Log) { log.Back(log.Mark()) },
		"beyond":    func(log *undo.Log) { log.Back(math.MaxInt) },
		"Mark":      func(log *undo.Log) { log.Mark() },
		"down to 2": func(log *undo.Log) { log.Back(2) },
	} {
		log := &undo.Log{}
		l := undo.Of[int](log)
		var called []int
		for i := range 6 {
			log.Keep(func() {
				called = append(called, i)
				ask(log)
			})
			l.Add(i)
		}
		log.Back(0)
		slices.Sort(called)
		if !slices.Equal(called, []int{0, 1, 2, 3, 4, 5}) || log.Mark() != 0 || l.Len() != 0 {
			t.Errorf("%s: %v, %d changes, %v", what, called, log.Mark(), l.All())
		}
	}
}

// TestP14_1ClearInTheMidst clears the log while a change is taken back: nothing more is.
func TestP14_1ClearInTheMidst(t *testing.T) {
	log := &undo.Log{}
	l := undo.Of[int](log)
	l.Add(1)
	l.Add(2)
	log.Keep(log.Clear)
	l.Add(3)
	log.Back(0)
	if !slices.Equal(l.All(), []int{1, 2}) || log.Mark() != 0 {
		t.Errorf("%v, %d changes", l.All(), log.Mark())
	}
	l.Set(0, 9)
	log.Back(0)
	if !slices.Equal(l.All(), []int{1, 2}) {
		t.Errorf("%v", l.All())
	}
}

// TestP14_1NoPanic has some that panic, and some nil, take changes back: Back doesn't panic, and the others are taken back.
func TestP14_1NoPanic(t *testing.T) {
	for what, back := range map[string]func(){
		"nil":     nil,
		"text":    func() { panic("no") },
		"error":   func() { panic(errors.New("no")) },
		"nothing": func() { panic(nil) },
		"bounds":  func() { var list []int; list[len(list)]++ },
	} {
		for mark := range 6 {
			b := newBoth(t, 1)
			for i := range 5 {
				b.log.Keep(back)
				b.model.keep(0)
				b.add(0, i)
				b.set(0, 0, 10+i)
				b.keep(i + 1)
				b.log.Keep(back)
				b.model.keep(0)
			}
			b.asks()
			b.back(mark)
			b.asks()
			b.back(0)
			b.asks()
			if len(b.called) != 5 {
				t.Errorf("%s: %v", what, b.called)
			}
		}
	}
}

// block is something that is great enough to be told from others when it is let go.
type block [64]int

// isHeld answers whether somebody still holds a block.
func isHeld(p weak.Pointer[block]) bool {
	for range 4 {
		runtime.GC()
		if p.Value() == nil {
			return false
		}
	}
	return true
}

// addNew adds a new block that the list alone holds.
func addNew(l *undo.List[*block]) weak.Pointer[block] {
	x := new(block)
	l.Add(x)
	return weak.Make(x)
}

// setNew sets a place to a new block that the list alone holds.
func setNew(l *undo.List[*block], i int) weak.Pointer[block] {
	x := new(block)
	l.Set(i, x)
	return weak.Make(x)
}

// keepNew keeps a change that alone holds a new block.
func keepNew(log *undo.Log) weak.Pointer[block] {
	x := new(block)
	log.Keep(func() { x[0]++ })
	return weak.Make(x)
}

// TestP14_1WhatIsGoneIsLetGo holds that neither log nor list holds what went, in the room that stays, either.
func TestP14_1WhatIsGoneIsLetGo(t *testing.T) {
	log := &undo.Log{}
	l := undo.Of[*block](log)
	first, second := addNew(l), addNew(l)
	kept := keepNew(log)
	third := setNew(l, 0)
	last := keepNew(log)
	for i, p := range []weak.Pointer[block]{first, second, kept, third, last} {
		if !isHeld(p) {
			t.Errorf("%d is lost", i)
		}
	}
	log.Back(2)
	if isHeld(kept) || isHeld(third) || isHeld(last) || !isHeld(first) || !isHeld(second) {
		t.Error("Back to 2")
	}
	log.Back(1)
	if isHeld(second) || !isHeld(first) {
		t.Error("Back to 1")
	}
	kept = keepNew(log)
	fourth := setNew(l, 0)
	if !isHeld(first) || !isHeld(kept) || !isHeld(fourth) {
		t.Error("Set")
	}
	log.Clear()
	if isHeld(first) || isHeld(kept) || !isHeld(fourth) {
		t.Error("Clear")
	}
	runtime.KeepAlive(log)
	runtime.KeepAlive(l)
}

// TestP14_1NoLogHoldsNothing has a list of no log: what another one took the place of is let go.
func TestP14_1NoLogHoldsNothing(t *testing.T) {
	l := undo.Of[*block](nil)
	first := addNew(l)
	second := setNew(l, 0)
	if isHeld(first) || !isHeld(second) {
		t.Error("Set")
	}
	runtime.KeepAlive(l)
}

// TestP14_2EachMarkOfEach goes from each number of changes back to each mark, at once and step by step.
func TestP14_2EachMarkOfEach(t *testing.T) {
	for seed := range int64(8) {
		for size := range 25 {
			for mark := range size + 1 {
				b, marks := changed(t, seed, size)
				b.log.Back(mark)
				b.isAs(marks[mark])
				b, marks = changed(t, seed, size)
				for m := size; m >= mark; m-- {
					b.log.Back(m)
					b.isAs(marks[m])
				}
			}
		}
	}
}

// changed answers three lists of one log behind a number of changes by chance, and how they stood at each mark.
func changed(t *testing.T, seed int64, size int) (*both, [][][]int) {
	random := rand.New(rand.NewSource(seed))
	b := newBoth(t, 3)
	marks := [][][]int{b.stand()}
	for b.log.Mark() < size {
		l := b.lists[random.Intn(3)]
		if random.Intn(3) == 0 {
			l.Add(random.Int())
		} else {
			l.Set(random.Intn(5), random.Int())
		}
		if b.log.Mark() == len(marks) {
			marks = append(marks, b.stand())
		}
	}
	return b, marks
}

// stand answers what the lists tell of themselves.
func (b *both) stand() [][]int {
	var all [][]int
	for _, l := range b.lists {
		list := make([]int, l.Len())
		for i := range list {
			list[i], _ = l.At(i)
		}
		all = append(all, list)
	}
	return all
}

func (b *both) isAs(want [][]int) {
	b.t.Helper()
	if got := b.stand(); !reflect.DeepEqual(got, want) {
		b.t.Fatalf("%v, not %v", got, want)
	}
	for which, l := range b.lists {
		if !slices.Equal(l.All(), want[which]) {
			b.t.Fatalf("list %d: %v, not %v", which, l.All(), want[which])
		}
	}
}

// TestP14_2MarksWithinMarks tells marks, changes and goes back by chance, the last mark first, as chains and items within them do.
func TestP14_2MarksWithinMarks(t *testing.T) {
	type told struct {
		mark  int
		stand [][]int
	}
	for seed := range int64(200) {
		random := rand.New(rand.NewSource(seed))
		b := newBoth(t, 1+int(seed%3))
		var marks []told
		for range 400 {
			l := b.lists[random.Intn(len(b.lists))]
			switch random.Intn(12) {
			case 0, 1:
				marks = append(marks, told{b.log.Mark(), b.stand()})
			case 2, 3:
				if len(marks) > 0 {
					i := len(marks) - 1 - random.Intn(min(len(marks), 1+int(seed%4)))
					b.log.Back(marks[i].mark)
					b.isAs(marks[i].stand)
					marks = marks[:i+random.Intn(2)] // a mark holds on behind its Back
				}
			case 4:
				if seed%2 == 0 && random.Intn(9) == 0 {
					stand := b.stand()
					b.log.Clear()
					b.isAs(stand)
					marks = nil
				}
			case 5, 6, 7:
				l.Add(random.Intn(100))
			default:
				l.Set(random.Intn(l.Len()+1), random.Intn(100))
			}
		}
		for i := len(marks) - 1; i >= 0; i-- {
			b.log.Back(marks[i].mark)
			b.isAs(marks[i].stand)
		}
	}
}

// TestP14_2ListsOfUnlikeTypes has three lists of one log, whose changes come by turns.
func TestP14_2ListsOfUnlikeTypes(t *testing.T) {
	log := &undo.Log{}
	numbers, texts, accounts := undo.Of[int](log), undo.Of[string](log), undo.Of[api.Account](log)
	numbers.Add(1)
	texts.Add("a")
	accounts.Add(api.Account{Code: 5})
	m := log.Mark()
	for i := range 30 {
		numbers.Set(0, i)
		texts.Add("b")
		accounts.Set(0, api.Account{Stamp: i})
		numbers.Add(i)
		texts.Set(i, "c")
		accounts.Add(api.Account{Code: i})
	}
	log.Back(m)
	if !slices.Equal(numbers.All(), []int{1}) || !slices.Equal(texts.All(), []string{"a"}) ||
		!slices.Equal(accounts.All(), []api.Account{{Code: 5}}) || log.Mark() != 3 {
		t.Errorf("%v, %v, %v", numbers.All(), texts.All(), accounts.All())
	}
}

// TestP14_2ListMadeBehindTheMark has a list that wasn't there when the mark was told: it is empty again.
func TestP14_2ListMadeBehindTheMark(t *testing.T) {
	log := &undo.Log{}
	old := undo.Of[int](log)
	old.Add(1)
	m := log.Mark()
	made := undo.Of[int](log)
	if log.Mark() != m {
		t.Errorf("Of is no change, but there are %d", log.Mark())
	}
	made.Add(2)
	old.Set(0, 3)
	made.Set(0, 4)
	log.Back(m)
	if made.Len() != 0 || !slices.Equal(old.All(), []int{1}) {
		t.Errorf("%v, %v", made.All(), old.All())
	}
	if made.Add(5) != 0 || !slices.Equal(made.All(), []int{5}) {
		t.Errorf("%v", made.All())
	}
}

// TestP14_2ChangesInTheMidst has what takes a change back change lists itself: that is taken back, too.
func TestP14_2ChangesInTheMidst(t *testing.T) {
	log := &undo.Log{}
	l, other := undo.Of[int](log), undo.Of[int](log)
	l.Add(1)
	other.Add(5)
	m := log.Mark()
	called := 0
	log.Keep(func() {
		l.Add(2)
		other.Set(0, 6)
		l.Set(0, 3)
		log.Keep(func() { called++; other.Add(7) })
	})
	l.Set(0, 4)
	log.Back(m)
	if !slices.Equal(l.All(), []int{1}) || !slices.Equal(other.All(), []int{5}) || called != 1 || log.Mark() != m {
		t.Errorf("%v, %v, called %d times, %d changes", l.All(), other.All(), called, log.Mark())
	}
}

// TestP14_2Again goes back to one mark again and again, behind few changes and behind many.
func TestP14_2Again(t *testing.T) {
	b, marks := changed(t, 3, 20)
	for i := range 200 {
		for j := range i % 50 {
			b.lists[j%3].Set(j%4, 1000*i+j)
			b.lists[(i+j)%3].Add(j)
		}
		b.log.Back(20)
		b.isAs(marks[20])
	}
	b.log.Back(0)
	b.isAs(marks[0])
}

// TestP14_2VeryMany has more changes than the model could keep.
func TestP14_2VeryMany(t *testing.T) {
	const n = 1 << 16
	log := &undo.Log{}
	l := undo.Of[int](log)
	for i := range n {
		l.Add(i)
		l.Set(i*31%(i+1), -i)
	}
	marks := 0
	for mark := 2 * n; mark >= 0; mark -= n / 8 {
		log.Back(mark)
		if l.Len() != mark/2 || log.Mark() != mark {
			t.Fatalf("%d items, %d changes, not %d", l.Len(), log.Mark(), mark)
		}
		want := make([]int, mark/2)
		for i := range want {
			want[i] = i
			want[i*31%(i+1)] = -i
		}
		if !slices.Equal(l.All(), want) {
			t.Fatalf("behind Back(%d)", mark)
		}
		marks++
	}
	if marks != 17 || l.Len() != 0 {
		t.Errorf("%d marks, %d items", marks, l.Len())
	}
}
