package xfer_test

import (
	"encoding/binary"
	"math"
	"math/rand"
	"strings"
	"testing"

	"bondstore/api"
	"bondstore/tape"
	"bondstore/xfer"
)

// The flags, and the greatest numbers, as the chapter says them.
const (
	linked      = 1
	pending     = 2
	post        = 4
	void        = 8
	debitMost   = 16
	creditMost  = 32
	closeDebit  = 64
	closeCredit = 128
	maxTimeout  = 1073741824
	mostOfTwo   = 65535
	mostOf4     = 4294967295
	size        = 108
)

// mostNum is the greatest number of 128 bits.
var mostNum = api.Num{Hi: math.MaxUint64, Lo: math.MaxUint64}

// edges are numbers at which a byte, a field or the sign turns.
func edges() []int {
	list := []int{0, 1, 2, 3, 7, 9, 258, 0x01020304, 0x0102030405060708, math.MaxInt, math.MaxInt - 1, math.MinInt, math.MinInt + 1, -1, -2}
	for bit := range 63 {
		list = append(list, 1<<bit, 1<<bit-1, 1<<bit+1, -1<<bit, -1<<bit-1, -1<<bit+1)
	}
	return list
}

// nums are numbers of 128 bits at which a word turns, and others that are unlike in each byte.
func nums() []api.Num {
	list := []api.Num{
		{}, {Lo: 1}, {Lo: 255}, {Lo: 256}, {Lo: math.MaxUint64 - 1}, {Lo: math.MaxUint64}, {Hi: 1}, {Hi: 1, Lo: 2}, {Hi: 1 << 63}, {Hi: math.MaxUint64},
		{Hi: math.MaxUint64, Lo: math.MaxUint64 - 1}, {Hi: math.MaxUint64 - 1, Lo: math.MaxUint64}, mostNum, {Hi: 0x0102030405060708, Lo: 0x090a0b0c0d0e0f10},
	}
	for bit := range 64 {
		list = append(list, api.Num{Lo: 1 << bit}, api.Num{Hi: 1 << bit})
	}
	return list
}

// plain is a transfer that can be done, and ends none.
func plain() api.Transfer {
	return api.Transfer{Id: api.Num{Hi: 5, Lo: 7}, Debit: api.Num{Lo: 2}, Credit: api.Num{Hi: 2}, Amount: api.Num{Lo: 4}, Ledger: 3, Code: 4}
}

// ending is a transfer that can be done, and ends a pending one.
func ending() api.Transfer {
	return api.Transfer{Id: api.Num{Hi: 5, Lo: 7}, Pending: api.Num{Hi: 9}, Flags: post}
}

// full is a transfer that has bytes, unlike in each of them.
func full() api.Transfer {
	return api.Transfer{
		Id:      api.Num{Hi: 0x100f0e0d0c0b0a09, Lo: 0x0807060504030201},
		Debit:   api.Num{Hi: 0x201f1e1d1c1b1a19, Lo: 0x1817161514131211},
		Credit:  api.Num{Hi: 0x302f2e2d2c2b2a29, Lo: 0x2827262524232221},
		Amount:  api.Num{Hi: 0x403f3e3d3c3b3a39, Lo: 0x3837363534333231},
		Pending: api.Num{Hi: 0x504f4e4d4c4b4a49, Lo: 0x4847464544434241},
		Timeout: 0x54535251,
		Ledger:  0x58575655,
		Code:    0x5a59,
		Flags:   0x5c5b,
		Stamp:   0x64636261605f5e5d,
		Born:    0x6c6b6a6968676665,
	}
}

// turned answers a transfer with something turned.
func turned(x api.Transfer, f func(x *api.Transfer)) api.Transfer {
	f(&x)
	return x
}

// withFlags answers a transfer with other flags.
func withFlags(x api.Transfer, flags int) api.Transfer {
	x.Flags = flags
	return x
}

// wideFields and intFields turn one of a transfer's fields each.
var wideFields = map[string]func(x *api.Transfer, n api.Num){
	"Id":      func(x *api.Transfer, n api.Num) { x.Id = n },
	"Debit":   func(x *api.Transfer, n api.Num) { x.Debit = n },
	"Credit":  func(x *api.Transfer, n api.Num) { x.Credit = n },
	"Amount":  func(x *api.Transfer, n api.Num) { x.Amount = n },
	"Pending": func(x *api.Transfer, n api.Num) { x.Pending = n },
}

var intFields = map[string]func(x *api.Transfer, n int){
	"Timeout": func(x *api.Transfer, n int) { x.Timeout = n },
	"Ledger":  func(x *api.Transfer, n int) { x.Ledger = n },
	"Code":    func(x *api.Transfer, n int) { x.Code = n },
	"Flags":   func(x *api.Transfer, n int) { x.Flags = n },
	"Stamp":   func(x *api.Transfer, n int) { x.Stamp = n },
	"Born":    func(x *api.Transfer, n int) { x.Born = n },
}

// has answers whether a transfer has a flag.
func has(x api.Transfer, flag int) bool { return x.Flags&flag == flag }

// isNought answers whether a number is 0.
func isNought(n api.Num) bool { return n.Hi == 0 && n.Lo == 0 }

// goTogether answers whether a transfer's flags do, by the chapter's words.
func goTogether(x api.Transfer) bool {
	kinds := 0
	for _, flag := range []int{pending, post, void} {
		if has(x, flag) {
			kinds++
		}
	}
	if kinds > 1 {
		return false
	}
	for _, flag := range []int{debitMost, creditMost, closeDebit, closeCredit} {
		if has(x, flag) && (has(x, post) || has(x, void)) {
			return false
		}
	}
	return !has(x, closeDebit) && !has(x, closeCredit) || has(x, pending)
}

// wrongOf answers what is wrong with a transfer, by the chapter's words.
func wrongOf(x api.Transfer) api.Result {
	if x.Flags < 0 || x.Flags > 255 {
		return 3
	}
	if isNought(x.Id) {
		return 4
	}
	if x.Id.Hi == math.MaxUint64 && x.Id.Lo == math.MaxUint64 {
		return 5
	}
	if !goTogether(x) {
		return 6
	}
	if x.Stamp != 0 || x.Born != 0 {
		return 7
	}
	if x.Timeout < 0 || x.Timeout > maxTimeout || x.Timeout != 0 && !has(x, pending) {
		return 17
	}
	if has(x, post) || has(x, void) {
		return wrongOfEnding(x)
	}
	return wrongOfOthers(x)
}

func wrongOfEnding(x api.Transfer) api.Result {
	if isNought(x.Pending) {
		return 16
	}
	if x.Ledger < 0 || x.Ledger > mostOf4 {
		return 8
	}
	if x.Code < 0 || x.Code > mostOfTwo {
		return 9
	}
	return 0
}

func wrongOfOthers(x api.Transfer) api.Result {
	if isNought(x.Debit) {
		return 12
	}
	if isNought(x.Credit) {
		return 13
	}
	if x.Debit.Hi == x.Credit.Hi && x.Debit.Lo == x.Credit.Lo {
		return 14
	}
	if !isNought(x.Pending) {
		return 15
	}
	if isNought(x.Amount) && !has(x, debitMost) && !has(x, creditMost) {
		return 18
	}
	if x.Ledger <= 0 || x.Ledger > mostOf4 {
		return 8
	}
	if x.Code <= 0 || x.Code > mostOfTwo {
		return 9
	}
	return 0
}

// againOf answers what is told of a transfer where another one was asked for, by the chapter's words.
func againOf(x, there api.Transfer) api.Result {
	if has(x, linked) {
		x.Flags--
	}
	if has(there, linked) {
		there.Flags--
	}
	if x == there {
		return 10
	}
	return 11
}

// hasBytes answers whether a transfer has, by the chapter's words.
func hasBytes(x api.Transfer) bool {
	for _, n := range []int{x.Timeout, x.Ledger} {
		if n < 0 || n > mostOf4 {
			return false
		}
	}
	for _, n := range []int{x.Code, x.Flags} {
		if n < 0 || n > mostOfTwo {
			return false
		}
	}
	return true
}

// bytesOf answers the bytes that a transfer is put as, as the library lays them.
func bytesOf(x api.Transfer) string {
	if !hasBytes(x) {
		return strings.Repeat("\x00", size)
	}
	var b []byte
	for _, n := range []api.Num{x.Id, x.Debit, x.Credit, x.Amount, x.Pending} {
		b = binary.LittleEndian.AppendUint64(b, n.Lo)
		b = binary.LittleEndian.AppendUint64(b, n.Hi)
	}
	b = binary.LittleEndian.AppendUint32(b, uint32(x.Timeout))
	b = binary.LittleEndian.AppendUint32(b, uint32(x.Ledger))
	b = binary.LittleEndian.AppendUint16(b, uint16(x.Code))
	b = binary.LittleEndian.AppendUint16(b, uint16(x.Flags))
	b = binary.LittleEndian.AppendUint64(b, uint64(x.Stamp))
	return string(binary.LittleEndian.AppendUint64(b, uint64(x.Born)))
}

// transferOf answers the transfer that bytes are, of which there are enough.
func transferOf(s string) api.Transfer {
	b := []byte(s)
	num := func(at int) api.Num {
		return api.Num{Hi: binary.LittleEndian.Uint64(b[at+8:]), Lo: binary.LittleEndian.Uint64(b[at:])}
	}
	return api.Transfer{
		Id: num(0), Debit: num(16), Credit: num(32), Amount: num(48), Pending: num(64),
		Timeout: int(binary.LittleEndian.Uint32(b[80:])),
		Ledger:  int(binary.LittleEndian.Uint32(b[84:])),
		Code:    int(binary.LittleEndian.Uint16(b[88:])),
		Flags:   int(binary.LittleEndian.Uint16(b[90:])),
		Stamp:   int(int64(binary.LittleEndian.Uint64(b[92:]))),
		Born:    int(int64(binary.LittleEndian.Uint64(b[100:]))),
	}
}

// putOf answers the bytes that a transfer is put as by itself.
func putOf(x api.Transfer) string {
	var w tape.Writer
	xfer.Put(&w, x)
	return w.String()
}

// wantCheck says if Check answers another thing.
func wantCheck(t *testing.T, x api.Transfer, want api.Result) {
	t.Helper()
	if got := xfer.Check(x); got != want {
		t.Errorf("Check(%+v): %d, not %d", x, got, want)
	}
}

// wantKinds says if Ends, Pending or Balances answers another thing.
func wantKinds(t *testing.T, x api.Transfer, ends, waits, balances bool) {
	t.Helper()
	if got := xfer.Ends(x); got != ends {
		t.Errorf("Ends(%+v): %t", x, got)
	}
	if got := xfer.Pending(x); got != waits {
		t.Errorf("Pending(%+v): %t", x, got)
	}
	if got := xfer.Balances(x); got != balances {
		t.Errorf("Balances(%+v): %t", x, got)
	}
}

// wantAgain says if Again answers another thing, whichever of both is there.
func wantAgain(t *testing.T, x, y api.Transfer, want api.Result) {
	t.Helper()
	if got := xfer.Again(x, y); got != want {
		t.Errorf("Again(%+v, %+v): %d, not %d", x, y, got, want)
	}
	if got := xfer.Again(y, x); got != want {
		t.Errorf("Again(%+v, %+v): %d, not %d", y, x, got, want)
	}
}

// wantBytes says if Good or Put answers another thing than the chapter says.
func wantBytes(t *testing.T, x api.Transfer) {
	t.Helper()
	if got := xfer.Good(x); got != hasBytes(x) {
		t.Errorf("Good(%+v): %t", x, got)
	}
	if got, want := putOf(x), bytesOf(x); got != want {
		t.Errorf("Put(%+v):\n%x, not\n%x", x, got, want)
	}
}

// wantTaken says if what is put isn't taken again, or something is left or torn.
func wantTaken(t *testing.T, x, want api.Transfer) {
	t.Helper()
	r := tape.Read(putOf(x))
	if got := xfer.Get(r); got != want || !r.End() {
		t.Errorf("%+v is taken as %+v (at the end: %t)", x, got, r.End())
	}
}

func TestP10_1ExampleOfChapter(t *testing.T) {
	for _, flags := range []int{post, void} {
		wantCheck(t, api.Transfer{Id: api.Num{Lo: 1}, Flags: flags}, 16)
		wantCheck(t, api.Transfer{Id: api.Num{Lo: 1}, Flags: flags, Pending: api.Num{Lo: 2}}, 0)
	}
}

func TestP10_1KindsByHand(t *testing.T) {
	for _, c := range []struct {
		flags                 int
		ends, waits, balances bool
	}{
		{0, false, false, false},
		{linked, false, false, false},
		{pending, false, true, false},
		{post, true, false, false},
		{void, true, false, false},
		{post | void, true, false, false},
		{debitMost, false, false, true},
		{creditMost, false, false, true},
		{debitMost | creditMost, false, false, true},
		{closeDebit | closeCredit, false, false, false},
		{pending | closeDebit, false, true, false},
		{pending | void, true, true, false},
		{linked | pending | creditMost, false, true, true},
		{post | debitMost, true, false, true},
		{255, true, true, true},
		{256, false, false, false},
		{256 | pending | void | debitMost, true, true, true},
		{1 << 40, false, false, false},
		{-1, true, true, true},
		{math.MinInt, false, false, false},
		{-1 &^ (post | void), false, true, true},
		{-1 &^ pending, true, false, true},
		{-1 &^ (debitMost | creditMost), true, true, false},
	} {
		// Nothing but the flags plays a part.
		for _, x := range []api.Transfer{{}, plain(), ending(), full(), {Pending: mostNum, Timeout: -1, Ledger: -1, Code: -1, Stamp: -1, Born: -1}} {
			wantKinds(t, withFlags(x, c.flags), c.ends, c.waits, c.balances)
		}
	}
}

func TestP10_1KindsOfAllFlags(t *testing.T) {
	list := edges()
	for flags := range 1 << 16 {
		list = append(list, flags, -flags)
	}
	for _, flags := range list {
		x := withFlags(plain(), flags)
		wantKinds(t, x, has(x, post) || has(x, void), has(x, pending), has(x, debitMost) || has(x, creditMost))
	}
}

func TestP10_1CheckOfTransfersThatCanBeDone(t *testing.T) {
	flags := []int{0, pending, debitMost, creditMost, debitMost | creditMost, pending | debitMost, pending | creditMost, pending | debitMost | creditMost}
	for _, closes := range []int{closeDebit, closeCredit, closeDebit | closeCredit} {
		flags = append(flags, pending|closes, pending|debitMost|closes, pending|creditMost|closes, pending|debitMost|creditMost|closes)
	}
	for _, f := range flags {
		wantCheck(t, withFlags(plain(), f), 0)
		wantCheck(t, withFlags(plain(), f|linked), 0)
	}
	for _, f := range []int{post, void, linked | post, linked | void} {
		wantCheck(t, withFlags(ending(), f), 0)
	}
	for _, ledger := range []int{1, 2, 255, 256, mostOfTwo, mostOfTwo + 1, 1<<31 - 1, 1 << 31, mostOf4 - 1, mostOf4} {
		for _, code := range []int{1, 2, 255, 256, 1<<15 - 1, 1 << 15, mostOfTwo - 1, mostOfTwo} {
			turn := func(x *api.Transfer) { x.Ledger, x.Code = ledger, code }
			wantCheck(t, turned(plain(), turn), 0)
			wantCheck(t, turned(ending(), turn), 0)
		}
	}
	for _, timeout := range []int{0, 1, 2, 255, 1 << 29, maxTimeout - 1, maxTimeout} {
		wantCheck(t, turned(plain(), func(x *api.Transfer) { x.Flags, x.Timeout = pending, timeout }), 0)
	}
}

func TestP10_1CheckOfUnknownFlags(t *testing.T) {
	for _, flags := range []int{256, 257, 511, 512, 1 << 16, 1 << 32, 1 << 62, math.MaxInt, -1, -2, -255, -256, math.MinInt, math.MinInt + post} {
		for _, x := range []api.Transfer{plain(), ending(), full(), {}} {
			wantCheck(t, withFlags(x, flags), 3)
		}
	}
	for bit := 8; bit < 63; bit++ {
		for known := range 256 {
			wantCheck(t, withFlags(plain(), 1<<bit|known), 3)
		}
	}
}

func TestP10_1CheckOfNames(t *testing.T) {
	for _, x := range []api.Transfer{plain(), ending()} {
		for _, id := range nums() {
			want := api.Result(0)
			if isNought(id) {
				want = 4
			} else if id == mostNum {
				want = 5
			}
			wantCheck(t, turned(x, func(x *api.Transfer) { x.Id = id }), want)
		}
		for bit := range 64 {
			wantCheck(t, turned(x, func(x *api.Transfer) { x.Id = api.Num{Hi: mostNum.Hi, Lo: mostNum.Lo ^ 1<<bit} }), 0)
			wantCheck(t, turned(x, func(x *api.Transfer) { x.Id = api.Num{Hi: mostNum.Hi ^ 1<<bit, Lo: mostNum.Lo} }), 0)
		}
	}
}

func TestP10_1CheckOfFlagsThatExclude(t *testing.T) {
	for _, flags := range []int{
		pending | post, pending | void, post | void, pending | post | void,
		post | debitMost, post | creditMost, post | closeDebit, post | closeCredit,
		void | debitMost, void | creditMost, void | closeDebit, void | closeCredit,
		closeDebit, closeCredit, closeDebit | closeCredit, debitMost | closeDebit, creditMost | closeCredit,
		pending | post | closeDebit, 255,
	} {
		for _, x := range []api.Transfer{plain(), ending()} {
			wantCheck(t, withFlags(x, flags), 6)
			wantCheck(t, withFlags(x, flags|linked), 6)
		}
	}
}

func TestP10_1CheckOfEachOfAllFlags(t *testing.T) {
	together := 0
	for flags := range 256 {
		// A pending one is named just by those that end one.
		x := withFlags(plain(), flags)
		if has(x, post) || has(x, void) {
			x.Pending = api.Num{Lo: 8}
		}
		wantCheck(t, x, wrongOf(x))
		switch xfer.Check(x) {
		case 0:
			together++
		case 6:
		default:
			t.Errorf("flags %d: %d", flags, xfer.Check(x))
		}
	}
	// Those that wait go with each of the last four, others with the first two of these, and those that end with none.
	if want := 2 * (16 + 4 + 2); together != want {
		t.Errorf("%d go together, not %d", together, want)
	}
}

func TestP10_1CheckOfStampsAndBirths(t *testing.T) {
	for _, x := range []api.Transfer{plain(), ending(), withFlags(plain(), pending|closeDebit)} {
		for _, n := range edges() {
			want := api.Result(7)
			if n == 0 {
				want = 0
			}
			wantCheck(t, turned(x, func(x *api.Transfer) { x.Stamp = n }), want)
			wantCheck(t, turned(x, func(x *api.Transfer) { x.Born = n }), want)
		}
		// Both that cancel one another aren't 0 either.
		wantCheck(t, turned(x, func(x *api.Transfer) { x.Stamp, x.Born = 1, -1 }), 7)
		wantCheck(t, turned(x, func(x *api.Transfer) { x.Stamp, x.Born = math.MinInt, math.MinInt }), 7)
	}
}

func TestP10_1CheckOfTimeouts(t *testing.T) {
	waits := withFlags(plain(), pending)
	for _, n := range []int{-1, -2, math.MinInt, maxTimeout + 1, 1 << 31, 1 << 32, mostOf4, math.MaxInt} {
		for _, x := range []api.Transfer{plain(), ending(), waits} {
			wantCheck(t, turned(x, func(x *api.Transfer) { x.Timeout = n }), 17)
		}
	}
	for _, n := range []int{1, 2, 255, maxTimeout - 1, maxTimeout} {
		for _, flags := range []int{0, linked, debitMost, creditMost} {
			wantCheck(t, turned(plain(), func(x *api.Transfer) { x.Flags, x.Timeout = flags, n }), 17)
		}
		for _, flags := range []int{post, void, linked | post} {
			wantCheck(t, turned(ending(), func(x *api.Transfer) { x.Flags, x.Timeout = flags, n }), 17)
		}
		for _, flags := range []int{pending, linked | pending, pending | debitMost, pending | closeCredit} {
			wantCheck(t, turned(plain(), func(x *api.Transfer) { x.Flags, x.Timeout = flags, n }), 0)
		}
	}
	for _, n := range edges() {
		for _, x := range []api.Transfer{plain(), ending(), waits} {
			x.Timeout = n
			wantCheck(t, x, wrongOf(x))
		}
	}
}

func TestP10_1CheckOfOneThatEnds(t *testing.T) {
	for _, flags := range []int{post, void, linked | post, linked | void} {
		x := withFlags(ending(), flags)
		for _, n := range nums() {
			want := api.Result(0)
			if isNought(n) {
				want = 16
			}
			wantCheck(t, turned(x, func(x *api.Transfer) { x.Pending = n }), want)
			// Neither accounts nor an amount are asked of it, nor whether both accounts are one.
			wantCheck(t, turned(x, func(x *api.Transfer) { x.Debit = n }), 0)
			wantCheck(t, turned(x, func(x *api.Transfer) { x.Credit = n }), 0)
			wantCheck(t, turned(x, func(x *api.Transfer) { x.Debit, x.Credit = n, n }), 0)
			wantCheck(t, turned(x, func(x *api.Transfer) { x.Amount = n }), 0)
		}
		// Nor whether it names itself.
		wantCheck(t, turned(x, func(x *api.Transfer) { x.Pending = x.Id }), 0)
		for _, n := range []int{0, 1, mostOf4} {
			wantCheck(t, turned(x, func(x *api.Transfer) { x.Ledger = n }), 0)
		}
		for _, n := range []int{-1, mostOf4 + 1, 1<<32 + 1, 1 << 33, math.MinInt, math.MaxInt} {
			wantCheck(t, turned(x, func(x *api.Transfer) { x.Ledger = n }), 8)
		}
		for _, n := range []int{0, 1, mostOfTwo} {
			wantCheck(t, turned(x, func(x *api.Transfer) { x.Code = n }), 0)
		}
		for _, n := range []int{-1, mostOfTwo + 1, 65537, 1 << 32, math.MinInt, math.MaxInt} {
			wantCheck(t, turned(x, func(x *api.Transfer) { x.Code = n }), 9)
		}
	}
}

func TestP10_1CheckOfAccounts(t *testing.T) {
	for _, flags := range []int{0, pending, debitMost, pending | creditMost | closeDebit} {
		x := withFlags(plain(), flags)
		wantCheck(t, turned(x, func(x *api.Transfer) { x.Debit = api.Num{} }), 12)
		wantCheck(t, turned(x, func(x *api.Transfer) { x.Credit = api.Num{} }), 13)
		wantCheck(t, turned(x, func(x *api.Transfer) { x.Debit, x.Credit = api.Num{}, api.Num{} }), 12)
		for _, n := range nums() {
			if isNought(n) {
				continue
			}
			wantCheck(t, turned(x, func(x *api.Transfer) { x.Debit, x.Credit = n, n }), 14)
			wantCheck(t, turned(x, func(x *api.Transfer) { x.Debit, x.Credit = n, api.Num{Hi: n.Hi ^ 1<<62, Lo: n.Lo ^ 1} }), 0)
		}
		// Those that are unlike in one word aren't one, nor those whose words are turned round.
		wantCheck(t, turned(x, func(x *api.Transfer) { x.Debit, x.Credit = api.Num{Hi: 1, Lo: 2}, api.Num{Hi: 1, Lo: 3} }), 0)
		wantCheck(t, turned(x, func(x *api.Transfer) { x.Debit, x.Credit = api.Num{Hi: 1, Lo: 2}, api.Num{Hi: 3, Lo: 2} }), 0)
		wantCheck(t, turned(x, func(x *api.Transfer) { x.Debit, x.Credit = api.Num{Hi: 1, Lo: 2}, api.Num{Hi: 2, Lo: 1} }), 0)
		// A name may be the transfer's own, and the greatest number.
		wantCheck(t, turned(x, func(x *api.Transfer) { x.Debit, x.Credit = x.Id, mostNum }), 0)
		wantCheck(t, turned(x, func(x *api.Transfer) { x.Debit, x.Credit = mostNum, x.Id }), 0)
	}
}

func TestP10_1CheckOfPendingsAndAmounts(t *testing.T) {
	for _, n := range nums() {
		named, amount := api.Result(15), api.Result(0)
		if isNought(n) {
			named, amount = 0, 18
		}
		for _, flags := range []int{0, linked, pending, pending | closeDebit | closeCredit} {
			x := withFlags(plain(), flags)
			wantCheck(t, turned(x, func(x *api.Transfer) { x.Pending = n }), named)
			wantCheck(t, turned(x, func(x *api.Transfer) { x.Amount = n }), amount)
		}
		for _, flags := range []int{debitMost, creditMost, debitMost | creditMost, linked | pending | debitMost, pending | creditMost | closeDebit} {
			x := withFlags(plain(), flags)
			wantCheck(t, turned(x, func(x *api.Transfer) { x.Pending = n }), named)
			wantCheck(t, turned(x, func(x *api.Transfer) { x.Amount = n }), 0)
		}
	}
}

func TestP10_1CheckOfLedgersAndCodes(t *testing.T) {
	found := map[api.Result]int{}
	for _, x := range []api.Transfer{plain(), ending(), withFlags(plain(), pending|creditMost)} {
		for _, n := range edges() {
			ledger := turned(x, func(x *api.Transfer) { x.Ledger = n })
			code := turned(x, func(x *api.Transfer) { x.Code = n })
			wantCheck(t, ledger, wrongOf(ledger))
			wantCheck(t, code, wrongOf(code))
			found[wrongOf(ledger)]++
			found[wrongOf(code)]++
		}
	}
	for _, n := range []int{0, -1, 1 << 32, 1<<32 + 1, 1 << 33, math.MinInt, math.MaxInt} {
		wantCheck(t, turned(plain(), func(x *api.Transfer) { x.Ledger = n }), 8)
	}
	for _, n := range []int{0, -1, 65536, 65537, 1 << 17, 1 << 32, 1<<32 + 1, math.MinInt, math.MaxInt} {
		wantCheck(t, turned(plain(), func(x *api.Transfer) { x.Code = n }), 9)
	}
	if found[0] == 0 || found[8] == 0 || found[9] == 0 || len(found) != 3 {
		t.Errorf("found: %v", found)
	}
}

// fault is one that a transfer may have beside others: what is told of it, and how it comes.
type fault struct {
	told api.Result
	turn func(x *api.Transfer)
}

// common are the faults of all transfers, in the chapter's order; those that end and others have more behind them.
var common = []fault{
	{3, func(x *api.Transfer) { x.Flags |= 256 }},
	{4, func(x *api.Transfer) { x.Id = api.Num{} }},
	{5, func(x *api.Transfer) { x.Id = mostNum }},
	{6, func(x *api.Transfer) { x.Flags |= closeDebit }},
	{7, func(x *api.Transfer) { x.Stamp = -1 }},
	{7, func(x *api.Transfer) { x.Born = 1 }},
	{17, func(x *api.Transfer) { x.Timeout = 1 }},
}

// wantFirst says if Check of one with some of these faults doesn't tell the first one, for all sets of them.
func wantFirst(t *testing.T, sound api.Transfer, faults []fault) {
	t.Helper()
	for set := range 1 << len(faults) {
		if set&(1<<1) != 0 && set&(1<<2) != 0 {
			continue // a name isn't both of them
		}
		x, want := sound, api.Result(0)
		for i := len(faults) - 1; i >= 0; i-- {
			if set&(1<<i) != 0 {
				faults[i].turn(&x)
				want = faults[i].told
			}
		}
		wantCheck(t, x, want)
	}
}

func TestP10_1CheckAnswersTheFirstFault(t *testing.T) {
	others := append([]fault(nil), common...)
	others = append(others,
		fault{12, func(x *api.Transfer) { x.Debit = api.Num{} }},
		fault{13, func(x *api.Transfer) { x.Credit = api.Num{} }},
		fault{15, func(x *api.Transfer) { x.Pending = api.Num{Lo: 1} }},
		fault{18, func(x *api.Transfer) { x.Amount = api.Num{} }},
		fault{8, func(x *api.Transfer) { x.Ledger = 0 }},
		fault{9, func(x *api.Transfer) { x.Code = 0 }},
	)
	wantFirst(t, plain(), others)
	// Both accounts that are one stand where accounts that are 0 stand.
	others[7] = fault{14, func(x *api.Transfer) { x.Credit = x.Debit }}
	wantFirst(t, plain(), append(others[:8:8], others[9:]...))
	ends := append([]fault(nil), common...)
	ends = append(ends,
		fault{16, func(x *api.Transfer) { x.Pending = api.Num{} }},
		fault{8, func(x *api.Transfer) { x.Ledger = -1 }},
		fault{9, func(x *api.Transfer) { x.Code = mostOfTwo + 1 }},
	)
	wantFirst(t, ending(), ends)
	wantFirst(t, withFlags(ending(), void|linked), ends)
}

// What is wrong with those that end is told of no others, and the other way round.
func TestP10_1CheckOfOneKindIsNotThatOfTheOther(t *testing.T) {
	wantCheck(t, withFlags(ending(), 0), 12)
	wantCheck(t, withFlags(ending(), pending), 12)
	wantCheck(t, withFlags(plain(), post), 16)
	wantCheck(t, withFlags(plain(), void), 16)
	wantCheck(t, api.Transfer{Id: api.Num{Lo: 1}}, 12)
	wantCheck(t, api.Transfer{}, 4)
	wantCheck(t, api.Transfer{Id: api.Num{Lo: 1}, Flags: post, Ledger: -1, Code: -1}, 16)
}

// chosen answers a transfer of which each field is, by chance, one at an edge, a small one or any.
func chosen(random *rand.Rand, ints []int, wides []api.Num) api.Transfer {
	number := func(small int) int {
		switch random.Intn(16) {
		case 0:
			return ints[random.Intn(len(ints))]
		case 1:
			return int(random.Uint64())
		}
		return random.Intn(small)
	}
	num := func() api.Num {
		switch random.Intn(4) {
		case 0:
			return wides[random.Intn(len(wides))]
		case 1:
			return api.Num{Hi: random.Uint64(), Lo: random.Uint64()}
		}
		return api.Num{Lo: uint64(random.Intn(4))}
	}
	flags := []int{0, 0, linked, pending, pending, post, void, debitMost, creditMost, pending | closeDebit, number(256), number(256)}
	x := api.Transfer{Id: num(), Debit: num(), Credit: num(), Amount: num(), Ledger: number(5), Code: number(5), Flags: flags[random.Intn(len(flags))]}
	if random.Intn(2) == 0 {
		x.Pending = num()
	}
	if random.Intn(3) == 0 {
		x.Timeout = number(2)
	}
	if random.Intn(6) == 0 {
		x.Stamp, x.Born = number(2), number(2)
	}
	return x
}

func TestP10_1EveryTransferIsToldAsTheChapterSays(t *testing.T) {
	random, ints, wides := rand.New(rand.NewSource(10)), edges(), nums()
	checks, goods := map[api.Result]int{}, map[bool]int{}
	for range 80000 {
		x := chosen(random, ints, wides)
		wantCheck(t, x, wrongOf(x))
		wantKinds(t, x, has(x, post) || has(x, void), has(x, pending), has(x, debitMost) || has(x, creditMost))
		wantBytes(t, x)
		checks[wrongOf(x)]++
		goods[hasBytes(x)]++
	}
	for _, r := range []api.Result{0, 3, 4, 5, 6, 7, 8, 9, 12, 13, 14, 15, 16, 17, 18} {
		if checks[r] < 50 {
			t.Errorf("Check: %d was asked for %d times", r, checks[r])
		}
	}
	if len(checks) != 15 || goods[true] < 1000 || goods[false] < 1000 {
		t.Errorf("found: %v, %v", checks, goods)
	}
}

func TestP10_1AgainOfTheSameOne(t *testing.T) {
	for _, x := range []api.Transfer{{}, plain(), ending(), full(), withFlags(plain(), -1), withFlags(plain(), math.MinInt), {Timeout: -1, Ledger: -1, Code: 1 << 20, Stamp: -1, Born: math.MinInt}} {
		for _, y := range []int{x.Flags &^ linked, x.Flags | linked} {
			for _, z := range []int{x.Flags &^ linked, x.Flags | linked} {
				wantAgain(t, withFlags(x, y), withFlags(x, z), 10)
			}
		}
	}
}

func TestP10_1AgainOfAnotherOne(t *testing.T) {
	for _, x := range []api.Transfer{{}, plain(), ending(), full()} {
		for name, turn := range wideFields {
			for _, n := range nums() {
				y := turned(x, func(x *api.Transfer) { turn(x, n) })
				if got, want := xfer.Again(x, y), againOf(x, y); got != want {
					t.Errorf("%s of %v: %d, not %d", name, n, got, want)
				}
				wantAgain(t, x, y, againOf(x, y))
			}
		}
		for name, turn := range intFields {
			for _, n := range edges() {
				y := turned(x, func(x *api.Transfer) { turn(x, n) })
				if got, want := xfer.Again(x, y), againOf(x, y); got != want {
					t.Errorf("%s of %d: %d, not %d", name, n, got, want)
				}
				wantAgain(t, x, y, againOf(x, y))
			}
		}
	}
}

func TestP10_1AgainOfEachField(t *testing.T) {
	x := full()
	for name, turn := range wideFields {
		if got := xfer.Again(x, turned(x, func(x *api.Transfer) { turn(x, api.Num{Lo: 3}) })); got != 11 {
			t.Errorf("%s: %d", name, got)
		}
	}
	for name, turn := range intFields {
		if got := xfer.Again(x, turned(x, func(x *api.Transfer) { turn(x, 3) })); got != 11 {
			t.Errorf("%s: %d", name, got)
		}
	}
	// Neither are numbers held against each other as the bytes that they would have, nor one for the other.
	for _, turn := range []func(x *api.Transfer){
		func(x *api.Transfer) { x.Timeout += 1 << 32 },
		func(x *api.Transfer) { x.Ledger += 1 << 32 },
		func(x *api.Transfer) { x.Code += 1 << 16 },
		func(x *api.Transfer) { x.Flags += 1 << 16 },
		func(x *api.Transfer) { x.Debit, x.Credit = x.Credit, x.Debit },
		func(x *api.Transfer) { x.Amount, x.Pending = x.Pending, x.Amount },
		func(x *api.Transfer) { x.Timeout, x.Ledger = x.Ledger, x.Timeout },
		func(x *api.Transfer) { x.Stamp, x.Born = x.Born, x.Stamp },
		func(x *api.Transfer) { x.Stamp++; x.Born-- },
	} {
		wantAgain(t, x, turned(x, turn), 11)
	}
	// Two that have no bytes aren't one for that.
	wantAgain(t, turned(x, func(x *api.Transfer) { x.Code = -1 }), turned(x, func(x *api.Transfer) { x.Code = -2 }), 11)
	// MoveLinked makes up for nothing else.
	wantAgain(t, x, turned(x, func(x *api.Transfer) { x.Flags ^= linked; x.Born++ }), 11)
}

func TestP10_1AgainOfEachPairOfFlags(t *testing.T) {
	for a := range 512 {
		for b := range 512 {
			x, y := withFlags(plain(), a), withFlags(plain(), b)
			want := api.Result(11)
			if a/2 == b/2 {
				want = 10
			}
			if got := xfer.Again(x, y); got != want {
				t.Errorf("of the flags %d and %d: %d, not %d", a, b, got, want)
			}
		}
	}
}

func TestP10_1GoodIsWhatHasBytes(t *testing.T) {
	for _, c := range []struct {
		timeout, ledger, code, flags int
		want                         bool
	}{
		{0, 0, 0, 0, true},
		{mostOf4, mostOf4, mostOfTwo, mostOfTwo, true},
		{1 << 31, 1 << 31, 1 << 15, 1 << 15, true},
		{maxTimeout + 1, 0, 0, 256, true},
		{mostOf4 + 1, 0, 0, 0, false},
		{0, mostOf4 + 1, 0, 0, false},
		{0, 0, mostOfTwo + 1, 0, false},
		{0, 0, 0, mostOfTwo + 1, false},
		{-1, 0, 0, 0, false},
		{0, -1, 0, 0, false},
		{0, 0, -1, 0, false},
		{0, 0, 0, -1, false},
		{math.MinInt, 0, 0, 0, false},
		{0, math.MinInt, 0, 0, false},
		{0, 0, math.MinInt, 0, false},
		{0, 0, 0, math.MinInt, false},
		{math.MaxInt, 0, 0, 0, false},
		{0, math.MaxInt, 0, 0, false},
		{0, 0, math.MaxInt, 0, false},
		{0, 0, 0, math.MaxInt, false},
		{-1, -1, -1, -1, false},
	} {
		for _, x := range []api.Transfer{{}, full(), {Stamp: -1, Born: -1}, {Stamp: math.MinInt, Born: math.MaxInt}, {Id: mostNum, Stamp: math.MaxInt, Born: math.MinInt}} {
			x.Timeout, x.Ledger, x.Code, x.Flags = c.timeout, c.ledger, c.code, c.flags
			if got := xfer.Good(x); got != c.want {
				t.Errorf("Good(%+v): %t", x, got)
			}
			wantBytes(t, x)
		}
	}
	for _, turn := range intFields {
		for _, n := range edges() {
			wantBytes(t, turned(full(), func(x *api.Transfer) { turn(x, n) }))
		}
	}
}

// What can't be done may have bytes, for a transfer that is kept has a stamp, and a time when it was born.
func TestP10_1GoodIsNotCheck(t *testing.T) {
	for _, x := range []api.Transfer{{}, {Id: mostNum}, full(), withFlags(plain(), post|void), turned(plain(), func(x *api.Transfer) { x.Stamp = 1 }), turned(plain(), func(x *api.Transfer) { x.Born = 1 })} {
		if !xfer.Good(x) || xfer.Check(x) == 0 {
			t.Errorf("%+v: %t, %d", x, xfer.Good(x), xfer.Check(x))
		}
	}
}

func TestP10_1BytesByHand(t *testing.T) {
	if xfer.Size != 108 {
		t.Errorf("Size: %d", xfer.Size)
	}
	// The bytes are 1, 2, .. to 108, for each field has its own, the lowest first.
	var want []byte
	for i := range 108 {
		want = append(want, byte(i+1))
	}
	if got := putOf(full()); got != string(want) {
		t.Errorf("%x", got)
	}
	if got := xfer.Get(tape.Read(string(want))); got != full() {
		t.Errorf("%+v", got)
	}
	if got := putOf(api.Transfer{}); got != strings.Repeat("\x00", 108) {
		t.Errorf("%x", got)
	}
	highest := api.Transfer{
		Id: mostNum, Debit: mostNum, Credit: mostNum, Amount: mostNum, Pending: mostNum,
		Timeout: mostOf4, Ledger: mostOf4, Code: mostOfTwo, Flags: mostOfTwo, Stamp: -1, Born: -1,
	}
	if got := putOf(highest); got != strings.Repeat("\xff", 108) {
		t.Errorf("%x", got)
	}
	if got := xfer.Get(tape.Read(strings.Repeat("\xff", 108))); got != highest {
		t.Errorf("%+v", got)
	}
}

func TestP10_1PutLaysNoughtsOfWhatHasNoBytes(t *testing.T) {
	for _, turn := range []func(x *api.Transfer){
		func(x *api.Transfer) { x.Timeout = -1 },
		func(x *api.Transfer) { x.Timeout = 1 << 32 },
		func(x *api.Transfer) { x.Ledger = -1 },
		func(x *api.Transfer) { x.Ledger = 1 << 32 },
		func(x *api.Transfer) { x.Code = -1 },
		func(x *api.Transfer) { x.Code = 1 << 16 },
		func(x *api.Transfer) { x.Flags = -1 },
		func(x *api.Transfer) { x.Flags = 1 << 16 },
	} {
		x := turned(full(), turn)
		if got := putOf(x); got != strings.Repeat("\x00", 108) {
			t.Errorf("Put(%+v): %x", x, got)
		}
	}
}

func TestP10_1PutStandsBehindOthers(t *testing.T) {
	var w tape.Writer
	want := "ahead"
	w.Raw(want)
	wrong := turned(full(), func(x *api.Transfer) { x.Timeout = 1 << 32 })
	for i, x := range []api.Transfer{full(), plain(), wrong, ending(), {}, full()} {
		xfer.Put(&w, x)
		want += bytesOf(x)
		if got := w.String(); got != want || w.Len() != 5+108*(i+1) {
			t.Fatalf("behind %d: %x", i, got)
		}
	}
	w.Raw("!")
	if got := w.String(); got != want+"!" {
		t.Errorf("%x", got)
	}
}

func TestP10_1GetTakesTheNextOne(t *testing.T) {
	list := []api.Transfer{full(), plain(), {}, {Id: mostNum, Stamp: -9, Born: -8}, ending(), full()}
	s := "ab"
	for _, x := range list {
		s += bytesOf(x)
	}
	r := tape.Read(s + "end")
	if r.Raw(2) != "ab" {
		t.Fatal("Raw")
	}
	for i, want := range list {
		if got := xfer.Get(r); got != want || r.Torn() || r.Left() != 108*(len(list)-1-i)+3 {
			t.Fatalf("%d: %+v, torn: %t, left: %d", i, got, r.Torn(), r.Left())
		}
	}
	if got := r.Raw(3); got != "end" || !r.End() {
		t.Errorf("%q, at the end: %t", got, r.End())
	}
}

func TestP10_1GetOfWhatIsNotThere(t *testing.T) {
	whole := bytesOf(full())
	for cut := range 108 {
		r := tape.Read(whole + whole[:cut])
		if got := xfer.Get(r); got != full() || r.Torn() {
			t.Fatalf("the one ahead of a cut at %d: %+v", cut, got)
		}
		for range 3 {
			if got := xfer.Get(r); got != (api.Transfer{}) || !r.Torn() || r.Left() != 0 || r.End() {
				t.Errorf("cut at %d: %+v, torn: %t, left: %d", cut, got, r.Torn(), r.Left())
			}
		}
	}
}

func TestP10_1GetOfATornReader(t *testing.T) {
	r := tape.Read(bytesOf(full()))
	r.Raw(109)
	if got := xfer.Get(r); got != (api.Transfer{}) || !r.Torn() {
		t.Errorf("%+v, torn: %t", got, r.Torn())
	}
	r = tape.Read("\x02" + bytesOf(full()))
	r.Flag() // neither yes nor no
	if got := xfer.Get(r); got != (api.Transfer{}) || !r.Torn() {
		t.Errorf("%+v, torn: %t", got, r.Torn())
	}
}

func TestP10_1NilObjects(t *testing.T) {
	xfer.Put(nil, full())
	xfer.Put(nil, api.Transfer{Ledger: -1})
	if got := xfer.Get(nil); got != (api.Transfer{}) {
		t.Errorf("of nil: %+v", got)
	}
	if got := xfer.Get(&tape.Reader{}); got != (api.Transfer{}) {
		t.Errorf("of an empty reader: %+v", got)
	}
}

func TestP10_1GetOfAnyBytes(t *testing.T) {
	random := rand.New(rand.NewSource(108))
	for range 5000 {
		b := make([]byte, 108+random.Intn(3))
		random.Read(b)
		s := string(b)
		r := tape.Read(s)
		got := xfer.Get(r)
		if want := transferOf(s); got != want || r.Torn() || r.Left() != len(s)-108 {
			t.Fatalf("%x: %+v, not %+v", s, got, want)
		}
		if !xfer.Good(got) || putOf(got) != s[:108] {
			t.Fatalf("%x is put again as %x", s, putOf(got))
		}
	}
}

// One bit of the bytes is one bit of one field.
func TestP10_1GetOfEachBit(t *testing.T) {
	for bit := range 108 * 8 {
		b := make([]byte, 108)
		b[bit/8] = 1 << (bit % 8)
		got := xfer.Get(tape.Read(string(b)))
		if got != transferOf(string(b)) || got == (api.Transfer{}) {
			t.Errorf("bit %d: %+v", bit, got)
		}
	}
}

func TestP10_2WhatHasBytesIsTakenAgain(t *testing.T) {
	for _, x := range []api.Transfer{{}, plain(), ending(), full(), {Id: mostNum}, {Stamp: -1}, {Born: -1}, {Stamp: math.MinInt, Born: math.MaxInt}, {Timeout: mostOf4, Ledger: mostOf4, Code: mostOfTwo, Flags: mostOfTwo, Stamp: math.MaxInt, Born: math.MinInt}} {
		wantTaken(t, x, x)
	}
	for _, turn := range wideFields {
		for _, n := range nums() {
			x := turned(full(), func(x *api.Transfer) { turn(x, n) })
			wantTaken(t, x, x)
		}
	}
	for _, n := range edges() {
		x := turned(full(), func(x *api.Transfer) { x.Stamp, x.Born = n, ^n })
		wantTaken(t, x, x)
	}
	for n := range 1 << 16 {
		x := api.Transfer{Timeout: n << 16, Ledger: mostOf4 - n<<16, Code: n, Flags: mostOfTwo - n, Stamp: n, Born: -n}
		wantTaken(t, x, x)
	}
}

func TestP10_2EveryTransferIsTakenAgainOrIsNone(t *testing.T) {
	random, ints, wides := rand.New(rand.NewSource(102)), edges(), nums()
	found := map[bool]int{}
	for range 30000 {
		x := chosen(random, ints, wides)
		want := x
		if !hasBytes(x) {
			want = api.Transfer{} // noughts are an empty transfer's
		}
		wantTaken(t, x, want)
		found[hasBytes(x)]++
	}
	if found[true] < 1000 || found[false] < 1000 {
		t.Errorf("found: %v", found)
	}
}
