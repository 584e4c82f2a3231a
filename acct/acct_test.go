package acct_test

import (
	"encoding/binary"
	"math"
	"math/rand"
	"strings"
	"testing"

	"bondstore/acct"
	"bondstore/api"
	"bondstore/tape"
)

// The flags, the greatest ledger and the greatest code, as the chapter says them.
const (
	linked    = 1
	debits    = 2
	credits   = 4
	closed    = 8
	mostOfTwo = 65535
	mostOf4   = 4294967295
	size      = 96
)

// mostNum is the greatest number of 128 bits.
var mostNum = api.Num{Hi: math.MaxUint64, Lo: math.MaxUint64}

// edges are numbers at which a byte, a field or the sign turns.
func edges() []int {
	list := []int{0, 1, 2, 3, 7, 9, 258, 0x01020304, 0x0102030405060708, math.MaxInt, math.MaxInt - 1, math.MinInt, math.MinInt + 1, -1, -2}
	for bit := range 63 {
		list = append(list, 1<<bit, 1<<bit-1, 1<<bit+1, -1<<bit, -1<<bit-1, -1<<bit+1)
	}
	return list
}

// nums are numbers of 128 bits at which a word turns, and others that are unlike in each byte.
func nums() []api.Num {
	list := []api.Num{
		{}, {Lo: 1}, {Lo: 255}, {Lo: 256}, {Lo: math.MaxUint64 - 1}, {Lo: math.MaxUint64}, {Hi: 1}, {Hi: 1, Lo: 2}, {Hi: 1 << 63}, {Hi: math.MaxUint64},
		{Hi: math.MaxUint64, Lo: math.MaxUint64 - 1}, {Hi: math.MaxUint64 - 1, Lo: math.MaxUint64}, mostNum, {Hi: 0x0102030405060708, Lo: 0x090a0b0c0d0e0f10},
	}
	for bit := range 64 {
		list = append(list, api.Num{Lo: 1 << bit}, api.Num{Hi: 1 << bit})
	}
	return list
}

// plain is an account that can be made.
func plain() api.Account {
	return api.Account{Id: api.Num{Hi: 5, Lo: 7}, Ledger: 3, Code: 4, Flags: linked | debits}
}

// full is an account that has bytes, unlike in each of them.
func full() api.Account {
	return api.Account{
		Id:             api.Num{Hi: 0x100f0e0d0c0b0a09, Lo: 0x0807060504030201},
		DebitsPending:  api.Num{Hi: 0x201f1e1d1c1b1a19, Lo: 0x1817161514131211},
		DebitsPosted:   api.Num{Hi: 0x302f2e2d2c2b2a29, Lo: 0x2827262524232221},
		CreditsPending: api.Num{Hi: 0x403f3e3d3c3b3a39, Lo: 0x3837363534333231},
		CreditsPosted:  api.Num{Hi: 0x504f4e4d4c4b4a49, Lo: 0x4847464544434241},
		Ledger:         0x54535251,
		Code:           0x5655,
		Flags:          0x5857,
		Stamp:          0x605f5e5d5c5b5a59,
	}
}

// turned answers an account with something turned.
func turned(a api.Account, f func(a *api.Account)) api.Account {
	f(&a)
	return a
}

// wrongOf answers what is wrong with an account, by the chapter's words.
func wrongOf(a api.Account) api.Result {
	has := func(flag int) bool { return a.Flags&flag != 0 }
	if a.Flags < 0 || a.Flags > linked+debits+credits {
		return 3
	}
	if a.Id.Hi == 0 && a.Id.Lo == 0 {
		return 4
	}
	if a.Id.Hi == math.MaxUint64 && a.Id.Lo == math.MaxUint64 {
		return 5
	}
	if has(debits) && has(credits) {
		return 6
	}
	for _, n := range []api.Num{a.DebitsPending, a.DebitsPosted, a.CreditsPending, a.CreditsPosted} {
		if n.Hi != 0 || n.Lo != 0 {
			return 7
		}
	}
	if a.Stamp != 0 {
		return 7
	}
	if a.Ledger <= 0 || a.Ledger > mostOf4 {
		return 8
	}
	if a.Code <= 0 || a.Code > mostOfTwo {
		return 9
	}
	return 0
}

// againOf answers what is told of an account where another one is there, by the chapter's words.
func againOf(a, there api.Account) api.Result {
	if a.Ledger != there.Ledger || a.Code != there.Code {
		return 11
	}
	for _, flag := range []int{debits, credits} {
		if (a.Flags&flag != 0) != (there.Flags&flag != 0) {
			return 11
		}
	}
	return 10
}

// hasBytes answers whether an account has, by the chapter's words.
func hasBytes(a api.Account) bool {
	return a.Ledger >= 0 && a.Ledger <= mostOf4 && a.Code >= 0 && a.Code <= mostOfTwo && a.Flags >= 0 && a.Flags <= mostOfTwo
}

// bytesOf answers the bytes that an account is put as, as the library lays them.
func bytesOf(a api.Account) string {
	if !hasBytes(a) {
		return strings.Repeat("\x00", size)
	}
	var b []byte
	for _, n := range []api.Num{a.Id, a.DebitsPending, a.DebitsPosted, a.CreditsPending, a.CreditsPosted} {
		b = binary.LittleEndian.AppendUint64(b, n.Lo)
		b = binary.LittleEndian.AppendUint64(b, n.Hi)
	}
	b = binary.LittleEndian.AppendUint32(b, uint32(a.Ledger))
	b = binary.LittleEndian.AppendUint16(b, uint16(a.Code))
	b = binary.LittleEndian.AppendUint16(b, uint16(a.Flags))
	return string(binary.LittleEndian.AppendUint64(b, uint64(a.Stamp)))
}

// accountOf answers the account that bytes are, of which there are enough.
func accountOf(s string) api.Account {
	b := []byte(s)
	num := func(at int) api.Num {
		return api.Num{Hi: binary.LittleEndian.Uint64(b[at+8:]), Lo: binary.LittleEndian.Uint64(b[at:])}
	}
	return api.Account{
		Id: num(0), DebitsPending: num(16), DebitsPosted: num(32), CreditsPending: num(48), CreditsPosted: num(64),
		Ledger: int(binary.LittleEndian.Uint32(b[80:])),
		Code:   int(binary.LittleEndian.Uint16(b[84:])),
		Flags:  int(binary.LittleEndian.Uint16(b[86:])),
		Stamp:  int(int64(binary.LittleEndian.Uint64(b[88:]))),
	}
}

// putOf answers the bytes that an account is put as by itself.
func putOf(a api.Account) string {
	var w tape.Writer
	acct.Put(&w, a)
	return w.String()
}

// wantCheck says if Check answers another thing.
func wantCheck(t *testing.T, a api.Account, want api.Result) {
	t.Helper()
	if got := acct.Check(a); got != want {
		t.Errorf("Check(%+v): %d, not %d", a, got, want)
	}
}

// wantAgain says if Again answers another thing, whichever of both is there.
func wantAgain(t *testing.T, a, b api.Account, want api.Result) {
	t.Helper()
	if got := acct.Again(a, b); got != want {
		t.Errorf("Again(%+v, %+v): %d, not %d", a, b, got, want)
	}
	if got := acct.Again(b, a); got != want {
		t.Errorf("Again(%+v, %+v): %d, not %d", b, a, got, want)
	}
}

// wantBytes says if Good or Put answers another thing than the chapter says.
func wantBytes(t *testing.T, a api.Account) {
	t.Helper()
	if got := acct.Good(a); got != hasBytes(a) {
		t.Errorf("Good(%+v): %t", a, got)
	}
	if got, want := putOf(a), bytesOf(a); got != want {
		t.Errorf("Put(%+v):\n%x, not\n%x", a, got, want)
	}
}

// wantTaken says if what is put isn't taken again, or something is left or torn.
func wantTaken(t *testing.T, a, want api.Account) {
	t.Helper()
	r := tape.Read(putOf(a))
	if got := acct.Get(r); got != want || !r.End() {
		t.Errorf("%+v is taken as %+v (at the end: %t)", a, got, r.End())
	}
}

// balances turn one of an account's balances each.
var balances = map[string]func(a *api.Account, n api.Num){
	"DebitsPending":  func(a *api.Account, n api.Num) { a.DebitsPending = n },
	"DebitsPosted":   func(a *api.Account, n api.Num) { a.DebitsPosted = n },
	"CreditsPending": func(a *api.Account, n api.Num) { a.CreditsPending = n },
	"CreditsPosted":  func(a *api.Account, n api.Num) { a.CreditsPosted = n },
}

func TestP9_1ExampleOfChapter(t *testing.T) {
	wantCheck(t, api.Account{Id: api.Num{Lo: 1}, Ledger: 1, Code: 0}, 9)
	wantCheck(t, api.Account{Id: api.Num{Lo: 1}, Ledger: 1, Code: 1}, 0)
}

func TestP9_1CheckOfAccountsThatCanBeMade(t *testing.T) {
	for _, flags := range []int{0, linked, debits, credits, linked | debits, linked | credits} {
		for _, ledger := range []int{1, 2, 255, 256, mostOfTwo, mostOfTwo + 1, 1<<31 - 1, 1 << 31, mostOf4 - 1, mostOf4} {
			for _, code := range []int{1, 2, 255, 256, 1<<15 - 1, 1 << 15, mostOfTwo - 1, mostOfTwo} {
				wantCheck(t, api.Account{Id: api.Num{Lo: 1}, Ledger: ledger, Code: code, Flags: flags}, 0)
			}
		}
	}
	for _, id := range nums() {
		if id != (api.Num{}) && id != mostNum {
			wantCheck(t, turned(plain(), func(a *api.Account) { a.Id = id }), 0)
		}
	}
}

func TestP9_1CheckOfUnknownFlags(t *testing.T) {
	for bit := 3; bit < 63; bit++ {
		for known := range 8 {
			wantCheck(t, turned(plain(), func(a *api.Account) { a.Flags = 1<<bit | known }), 3)
		}
	}
	for _, flags := range []int{closed, closed | linked | debits | credits, 16, -1, -2, -8, -7, math.MinInt, math.MinInt + debits, math.MaxInt} {
		wantCheck(t, turned(plain(), func(a *api.Account) { a.Flags = flags }), 3)
	}
	for flags := range 1 << 16 {
		a := turned(plain(), func(a *api.Account) { a.Flags = flags })
		wantCheck(t, a, wrongOf(a))
	}
}

func TestP9_1CheckOfNames(t *testing.T) {
	wantCheck(t, turned(plain(), func(a *api.Account) { a.Id = api.Num{} }), 4)
	wantCheck(t, turned(plain(), func(a *api.Account) { a.Id = mostNum }), 5)
	for bit := range 64 {
		wantCheck(t, turned(plain(), func(a *api.Account) { a.Id = api.Num{Hi: mostNum.Hi, Lo: mostNum.Lo ^ 1<<bit} }), 0)
		wantCheck(t, turned(plain(), func(a *api.Account) { a.Id = api.Num{Hi: mostNum.Hi ^ 1<<bit, Lo: mostNum.Lo} }), 0)
	}
}

func TestP9_1CheckOfFlagsThatExclude(t *testing.T) {
	wantCheck(t, turned(plain(), func(a *api.Account) { a.Flags = debits | credits }), 6)
	wantCheck(t, turned(plain(), func(a *api.Account) { a.Flags = linked | debits | credits }), 6)
}

func TestP9_1CheckOfBalances(t *testing.T) {
	for name, turn := range balances {
		for _, n := range nums() {
			want := api.Result(7)
			if n == (api.Num{}) {
				want = 0
			}
			if got := acct.Check(turned(plain(), func(a *api.Account) { turn(a, n) })); got != want {
				t.Errorf("%s of %v: %d, not %d", name, n, got, want)
			}
		}
	}
	for _, stamp := range edges() {
		want := api.Result(7)
		if stamp == 0 {
			want = 0
		}
		wantCheck(t, turned(plain(), func(a *api.Account) { a.Stamp = stamp }), want)
	}
}

// Balances that cancel one another, or even ones, aren't 0 either.
func TestP9_1CheckOfEvenBalances(t *testing.T) {
	one := api.Num{Lo: 1}
	wantCheck(t, turned(plain(), func(a *api.Account) { a.DebitsPosted, a.CreditsPosted = one, one }), 7)
	wantCheck(t, turned(plain(), func(a *api.Account) { a.DebitsPending, a.CreditsPending = one, one }), 7)
	wantCheck(t, turned(plain(), func(a *api.Account) { a.DebitsPending, a.DebitsPosted = one, mostNum }), 7)
	wantCheck(t, turned(plain(), func(a *api.Account) { a.CreditsPosted, a.Stamp = one, -1 }), 7)
}

func TestP9_1CheckOfLedgersAndCodes(t *testing.T) {
	found := map[api.Result]int{}
	for _, n := range edges() {
		ledger := turned(plain(), func(a *api.Account) { a.Ledger = n })
		code := turned(plain(), func(a *api.Account) { a.Code = n })
		wantCheck(t, ledger, wrongOf(ledger))
		wantCheck(t, code, wrongOf(code))
		found[wrongOf(ledger)]++
		found[wrongOf(code)]++
	}
	for _, n := range []int{0, -1, 1 << 32, 1<<32 + 1, 1 << 33, math.MinInt, math.MaxInt} {
		wantCheck(t, turned(plain(), func(a *api.Account) { a.Ledger = n }), 8)
	}
	for _, n := range []int{0, -1, 65536, 65537, 1 << 17, 1 << 32, 1<<32 + 1, math.MinInt, math.MaxInt} {
		wantCheck(t, turned(plain(), func(a *api.Account) { a.Code = n }), 9)
	}
	if found[0] == 0 || found[8] == 0 || found[9] == 0 || len(found) != 3 {
		t.Errorf("found: %v", found)
	}
}

// fault is one that an account may have beside others: what is told of it, and how it comes.
type fault struct {
	told api.Result
	turn func(a *api.Account)
}

// faults are in the chapter's order.
var faults = []fault{
	{3, func(a *api.Account) { a.Flags |= closed }},
	{4, func(a *api.Account) { a.Id = api.Num{} }},
	{5, func(a *api.Account) { a.Id = mostNum }},
	{6, func(a *api.Account) { a.Flags |= debits | credits }},
	{7, func(a *api.Account) { a.DebitsPending.Hi = 1 }},
	{7, func(a *api.Account) { a.Stamp = -1 }},
	{8, func(a *api.Account) { a.Ledger = 0 }},
	{9, func(a *api.Account) { a.Code = mostOfTwo + 1 }},
}

func TestP9_1CheckAnswersTheFirstFault(t *testing.T) {
	for set := range 1 << len(faults) {
		if set&(1<<1) != 0 && set&(1<<2) != 0 {
			continue // a name isn't both of them
		}
		a, want := plain(), api.Result(0)
		for i := len(faults) - 1; i >= 0; i-- {
			if set&(1<<i) != 0 {
				faults[i].turn(&a)
				want = faults[i].told
			}
		}
		wantCheck(t, a, want)
	}
}

// chosen answers an account of which each field is, by chance, one at an edge, a small one or any.
func chosen(random *rand.Rand, ints []int, wides []api.Num) api.Account {
	number := func(small int) int {
		switch random.Intn(12) {
		case 0:
			return ints[random.Intn(len(ints))]
		case 1:
			return int(random.Uint64())
		}
		return random.Intn(small)
	}
	num := func() api.Num {
		switch random.Intn(3) {
		case 0:
			return wides[random.Intn(len(wides))]
		case 1:
			return api.Num{Hi: random.Uint64(), Lo: random.Uint64()}
		}
		return api.Num{Lo: uint64(random.Intn(3))}
	}
	a := api.Account{Id: num(), Ledger: number(4), Code: number(4), Flags: number(9)}
	if random.Intn(3) == 0 {
		a.DebitsPending, a.DebitsPosted, a.CreditsPending, a.CreditsPosted, a.Stamp = num(), num(), num(), num(), number(3)
	}
	return a
}

func TestP9_1EveryAccountIsToldAsTheChapterSays(t *testing.T) {
	random, ints, wides := rand.New(rand.NewSource(9)), edges(), nums()
	checks, agains, goods := map[api.Result]int{}, map[api.Result]int{}, map[bool]int{}
	for range 60000 {
		a, b := chosen(random, ints, wides), chosen(random, ints, wides)
		wantCheck(t, a, wrongOf(a))
		wantAgain(t, a, b, againOf(a, b))
		wantBytes(t, a)
		checks[wrongOf(a)]++
		agains[againOf(a, b)]++
		goods[hasBytes(a)]++
	}
	for _, r := range []api.Result{0, 3, 4, 5, 6, 7, 8, 9} {
		if checks[r] < 50 {
			t.Errorf("Check: %d was asked for %d times", r, checks[r])
		}
	}
	if agains[10] < 50 || agains[11] < 50 || goods[true] < 50 || goods[false] < 50 {
		t.Errorf("found: %v, %v", agains, goods)
	}
}

func TestP9_1AgainOfOneOfTheSameKind(t *testing.T) {
	a := plain()
	wantAgain(t, a, a, 10)
	wantAgain(t, api.Account{}, api.Account{}, 10)
	// All else plays no part: the name, the balances, the stamp, and the flags that are neither of both.
	for _, flags := range []int{debits, linked | debits, closed | debits, linked | closed | debits, 1<<40 | debits, math.MinInt | debits, -1 &^ credits} {
		wantAgain(t, a, turned(a, func(a *api.Account) { a.Flags = flags }), 10)
	}
	for _, n := range nums() {
		wantAgain(t, a, turned(a, func(a *api.Account) { a.Id = n }), 10)
		for _, turn := range balances {
			wantAgain(t, a, turned(a, func(a *api.Account) { turn(a, n) }), 10)
		}
	}
	for _, n := range edges() {
		wantAgain(t, a, turned(a, func(a *api.Account) { a.Stamp = n }), 10)
	}
}

func TestP9_1AgainOfOneOfAnotherKind(t *testing.T) {
	a := plain()
	for _, n := range edges() {
		if n != a.Ledger {
			wantAgain(t, a, turned(a, func(a *api.Account) { a.Ledger = n }), 11)
		}
		if n != a.Code {
			wantAgain(t, a, turned(a, func(a *api.Account) { a.Code = n }), 11)
		}
	}
	// Neither are numbers held against each other as the bytes that they would have, nor one for the other.
	wantAgain(t, a, turned(a, func(a *api.Account) { a.Ledger += 1 << 32 }), 11)
	wantAgain(t, a, turned(a, func(a *api.Account) { a.Code += 1 << 16 }), 11)
	wantAgain(t, a, turned(a, func(a *api.Account) { a.Ledger, a.Code = a.Code, a.Ledger }), 11)
	wantAgain(t, a, turned(a, func(a *api.Account) { a.Ledger++; a.Code-- }), 11)
}

func TestP9_1AgainOfEachPairOfFlags(t *testing.T) {
	for x := range 64 {
		for y := range 64 {
			a := turned(plain(), func(a *api.Account) { a.Flags = x })
			b := turned(plain(), func(a *api.Account) { a.Flags = y })
			wantAgain(t, a, b, againOf(a, b))
		}
	}
	none := turned(plain(), func(a *api.Account) { a.Flags = 0 })
	for _, flags := range []int{debits, credits, debits | credits, -1} {
		wantAgain(t, none, turned(none, func(a *api.Account) { a.Flags = flags }), 11)
	}
	for _, flags := range []int{linked, closed, -1 &^ (debits | credits), math.MinInt} {
		wantAgain(t, none, turned(none, func(a *api.Account) { a.Flags = flags }), 10)
	}
	wantAgain(t, turned(none, func(a *api.Account) { a.Flags = debits }), turned(none, func(a *api.Account) { a.Flags = credits }), 11)
}

func TestP9_1GoodIsWhatHasBytes(t *testing.T) {
	for _, c := range []struct {
		ledger, code, flags int
		want                bool
	}{
		{0, 0, 0, true},
		{mostOf4, mostOfTwo, mostOfTwo, true},
		{1 << 31, 1 << 15, 1 << 15, true},
		{mostOf4 + 1, 0, 0, false},
		{0, mostOfTwo + 1, 0, false},
		{0, 0, mostOfTwo + 1, false},
		{-1, 0, 0, false},
		{0, -1, 0, false},
		{0, 0, -1, false},
		{math.MinInt, 0, 0, false},
		{0, math.MinInt, 0, false},
		{0, 0, math.MinInt, false},
		{math.MaxInt, 0, 0, false},
		{0, math.MaxInt, 0, false},
		{0, 0, math.MaxInt, false},
		{-1, -1, -1, false},
	} {
		for _, a := range []api.Account{{}, full(), {Stamp: -1}, {Stamp: math.MinInt}, {Id: mostNum, Stamp: math.MaxInt}} {
			a.Ledger, a.Code, a.Flags = c.ledger, c.code, c.flags
			if got := acct.Good(a); got != c.want {
				t.Errorf("Good(%+v): %t", a, got)
			}
			wantBytes(t, a)
		}
	}
	for _, n := range edges() {
		wantBytes(t, turned(full(), func(a *api.Account) { a.Ledger = n }))
		wantBytes(t, turned(full(), func(a *api.Account) { a.Code = n }))
		wantBytes(t, turned(full(), func(a *api.Account) { a.Flags = n }))
		wantBytes(t, turned(full(), func(a *api.Account) { a.Stamp = n }))
	}
}

// What can't be made may have bytes, for an account that is there has balances and a stamp, and may be closed.
func TestP9_1GoodIsNotCheck(t *testing.T) {
	for _, a := range []api.Account{{}, {Id: mostNum}, full(), turned(plain(), func(a *api.Account) { a.Flags = closed }), turned(plain(), func(a *api.Account) { a.Stamp = 1 })} {
		if !acct.Good(a) || acct.Check(a) == 0 {
			t.Errorf("%+v: %t, %d", a, acct.Good(a), acct.Check(a))
		}
	}
}

func TestP9_1BytesByHand(t *testing.T) {
	if acct.Size != 96 {
		t.Errorf("Size: %d", acct.Size)
	}
	// The bytes are 1, 2, .. to 96, for each field has its own, the lowest first.
	var want []byte
	for i := range 96 {
		want = append(want, byte(i+1))
	}
	if got := putOf(full()); got != string(want) {
		t.Errorf("%x", got)
	}
	if got := acct.Get(tape.Read(string(want))); got != full() {
		t.Errorf("%+v", got)
	}
	if got := putOf(api.Account{}); got != strings.Repeat("\x00", 96) {
		t.Errorf("%x", got)
	}
	highest := api.Account{
		Id: mostNum, DebitsPending: mostNum, DebitsPosted: mostNum, CreditsPending: mostNum, CreditsPosted: mostNum,
		Ledger: mostOf4, Code: mostOfTwo, Flags: mostOfTwo, Stamp: -1,
	}
	if got := putOf(highest); got != strings.Repeat("\xff", 96) {
		t.Errorf("%x", got)
	}
	if got := acct.Get(tape.Read(strings.Repeat("\xff", 96))); got != highest {
		t.Errorf("%+v", got)
	}
}

func TestP9_1PutLaysNoughtsOfWhatHasNoBytes(t *testing.T) {
	for _, turn := range []func(a *api.Account){
		func(a *api.Account) { a.Ledger = -1 },
		func(a *api.Account) { a.Ledger = 1 << 32 },
		func(a *api.Account) { a.Code = -1 },
		func(a *api.Account) { a.Code = 1 << 16 },
		func(a *api.Account) { a.Flags = -1 },
		func(a *api.Account) { a.Flags = 1 << 16 },
	} {
		a := turned(full(), turn)
		if got := putOf(a); got != strings.Repeat("\x00", 96) {
			t.Errorf("Put(%+v): %x", a, got)
		}
	}
}

func TestP9_1PutStandsBehindOthers(t *testing.T) {
	var w tape.Writer
	want := "ahead"
	w.Raw(want)
	wrong := turned(full(), func(a *api.Account) { a.Code = 1 << 16 })
	for i, a := range []api.Account{full(), plain(), wrong, {}, full()} {
		acct.Put(&w, a)
		want += bytesOf(a)
		if got := w.String(); got != want || w.Len() != 5+96*(i+1) {
			t.Fatalf("behind %d: %x", i, got)
		}
	}
	w.Raw("!")
	if got := w.String(); got != want+"!" {
		t.Errorf("%x", got)
	}
}

func TestP9_1GetTakesTheNextOne(t *testing.T) {
	list := []api.Account{full(), plain(), {}, {Id: mostNum, Stamp: -9}, full()}
	s := "ab"
	for _, a := range list {
		s += bytesOf(a)
	}
	r := tape.Read(s + "end")
	if r.Raw(2) != "ab" {
		t.Fatal("Raw")
	}
	for i, want := range list {
		if got := acct.Get(r); got != want || r.Torn() || r.Left() != 96*(len(list)-1-i)+3 {
			t.Fatalf("%d: %+v, torn: %t, left: %d", i, got, r.Torn(), r.Left())
		}
	}
	if got := r.Raw(3); got != "end" || !r.End() {
		t.Errorf("%q, at the end: %t", got, r.End())
	}
}

func TestP9_1GetOfWhatIsNotThere(t *testing.T) {
	whole := bytesOf(full())
	for cut := range 96 {
		r := tape.Read(whole + whole[:cut])
		if got := acct.Get(r); got != full() || r.Torn() {
			t.Fatalf("the one ahead of a cut at %d: %+v", cut, got)
		}
		for range 3 {
			if got := acct.Get(r); got != (api.Account{}) || !r.Torn() || r.Left() != 0 || r.End() {
				t.Errorf("cut at %d: %+v, torn: %t, left: %d", cut, got, r.Torn(), r.Left())
			}
		}
	}
}

func TestP9_1GetOfATornReader(t *testing.T) {
	r := tape.Read(bytesOf(full()))
	r.Raw(97)
	if got := acct.Get(r); got != (api.Account{}) || !r.Torn() {
		t.Errorf("%+v, torn: %t", got, r.Torn())
	}
	r = tape.Read("\x02" + bytesOf(full()))
	r.Flag() // neither yes nor no
	if got := acct.Get(r); got != (api.Account{}) || !r.Torn() {
		t.Errorf("%+v, torn: %t", got, r.Torn())
	}
}

func TestP9_1NilObjects(t *testing.T) {
	acct.Put(nil, full())
	acct.Put(nil, api.Account{Ledger: -1})
	if got := acct.Get(nil); got != (api.Account{}) {
		t.Errorf("of nil: %+v", got)
	}
	if got := acct.Get(&tape.Reader{}); got != (api.Account{}) {
		t.Errorf("of an empty reader: %+v", got)
	}
}

func TestP9_1GetOfAnyBytes(t *testing.T) {
	random := rand.New(rand.NewSource(96))
	for range 5000 {
		b := make([]byte, 96+random.Intn(3))
		random.Read(b)
		s := string(b)
		r := tape.Read(s)
		got := acct.Get(r)
		if want := accountOf(s); got != want || r.Torn() || r.Left() != len(s)-96 {
			t.Fatalf("%x: %+v, not %+v", s, got, want)
		}
		if !acct.Good(got) || putOf(got) != s[:96] {
			t.Fatalf("%x is put again as %x", s, putOf(got))
		}
	}
}

// One bit of the bytes is one bit of one field.
func TestP9_1GetOfEachBit(t *testing.T) {
	for bit := range 96 * 8 {
		b := make([]byte, 96)
		b[bit/8] = 1 << (bit % 8)
		got := acct.Get(tape.Read(string(b)))
		if got != accountOf(string(b)) || got == (api.Account{}) {
			t.Errorf("bit %d: %+v", bit, got)
		}
	}
}

func TestP9_2WhatHasBytesIsTakenAgain(t *testing.T) {
	for _, a := range []api.Account{{}, plain(), full(), {Id: mostNum}, {Stamp: -1}, {Stamp: math.MinInt}, {Ledger: mostOf4, Code: mostOfTwo, Flags: mostOfTwo, Stamp: math.MaxInt}} {
		wantTaken(t, a, a)
	}
	for _, n := range nums() {
		wantTaken(t, turned(full(), func(a *api.Account) { a.Id = n }), turned(full(), func(a *api.Account) { a.Id = n }))
		for _, turn := range balances {
			a := turned(full(), func(a *api.Account) { turn(a, n) })
			wantTaken(t, a, a)
		}
	}
	for _, n := range edges() {
		a := turned(full(), func(a *api.Account) { a.Stamp = n })
		wantTaken(t, a, a)
	}
	for n := range 1 << 16 {
		a := api.Account{Ledger: n << 16, Code: n, Flags: mostOfTwo - n, Stamp: n}
		wantTaken(t, a, a)
	}
}

func TestP9_2EveryAccountIsTakenAgainOrIsNone(t *testing.T) {
	random, ints, wides := rand.New(rand.NewSource(92)), edges(), nums()
	found := map[bool]int{}
	for range 30000 {
		a := chosen(random, ints, wides)
		want := a
		if !hasBytes(a) {
			want = api.Account{} // noughts are an empty account's
		}
		wantTaken(t, a, want)
		found[hasBytes(a)]++
	}
	if found[true] < 1000 || found[false] < 1000 {
		t.Errorf("found: %v", found)
	}
}
