package still_test

import (
	"math"
	"strings"
	"testing"

	"bondstore/api"
	"bondstore/books"
	"bondstore/chain"
	"bondstore/hold"
	"bondstore/still"
	"bondstore/wide"
)

func TestP21_1Example(t *testing.T) {
	want := "\x01" + strings.Repeat("\x00", 20)
	for _, s := range []*books.State{books.New(), nil} {
		if b := still.Bytes(s); b != want {
			t.Errorf("%x", b)
		}
	}
	s, err := still.Read(want)
	if err != api.OK || s == nil || !modelOf(s).is(model{}) {
		t.Errorf("%d, %+v", err, modelOf(s))
	}
}

func TestP21_1Most(t *testing.T) {
	if still.Most != 23925 {
		t.Errorf("%d", still.Most)
	}
	if n := len(told(t, full(t))); n != still.Most {
		t.Errorf("%d bytes", n)
	}
}

// TestP21_1ByHand has a state whose bytes are written out one by one.
func TestP21_1ByHand(t *testing.T) {
	m := model{clock: 0x0102030405, stamp: 0x0a0b0c, accounts: []api.Account{{
		Id: api.Num{Hi: 0x1112131415161718, Lo: 0x2122232425262728}, DebitsPending: wide.Of(3), DebitsPosted: wide.Of(4), CreditsPending: wide.Of(5), CreditsPosted: wide.Of(6),
		Ledger: 0x31323334, Code: 0x4142, Flags: 0x5152, Stamp: 0x6162,
	}}, kept: []api.Kept{{
		Asked: api.Transfer{Id: wide.Of(7), Debit: wide.Of(8), Credit: wide.Of(9), Amount: wide.Of(10), Pending: wide.Of(11), Timeout: 12, Ledger: 13, Code: 14, Flags: 15, Stamp: 16, Born: 17},
		Move:  api.Transfer{Id: wide.Of(18), Debit: wide.Of(19), Credit: wide.Of(20), Amount: wide.Of(21), Pending: wide.Of(22), Timeout: 23, Ledger: 24, Code: 25, Flags: 26, Stamp: 27, Born: 28},
		Fate:  3,
	}}}
	fifteen := strings.Repeat("\x00", 15)
	transfer := func(first byte) string {
		b := ""
		for range 5 {
			b += string([]byte{first}) + fifteen
			first++
		}
		return b + string([]byte{first, 0, 0, 0, first + 1, 0, 0, 0, first + 2, 0, first + 3, 0, first + 4, 0, 0, 0, 0, 0, 0, 0, first + 5, 0, 0, 0, 0, 0, 0, 0})
	}
	want := "\x01" + "\x05\x04\x03\x02\x01\x00\x00\x00" + "\x0c\x0b\x0a\x00\x00\x00\x00\x00" + "\x01\x00" + "\x01\x00" +
		"\x28\x27\x26\x25\x24\x23\x22\x21\x18\x17\x16\x15\x14\x13\x12\x11" + "\x03" + fifteen + "\x04" + fifteen + "\x05" + fifteen + "\x06" + fifteen +
		"\x34\x33\x32\x31" + "\x42\x41" + "\x52\x51" + "\x62\x61\x00\x00\x00\x00\x00\x00" +
		transfer(7) + transfer(18) + "\x03"
	if b := still.Bytes(m.load(t)); b != want {
		t.Errorf("%x, not %x", b, want)
	}
	if s, err := still.Read(want); err != api.OK || !modelOf(s).is(m) {
		t.Errorf("%d, %+v", err, modelOf(s))
	}
}

func TestP21_1Bytes(t *testing.T) {
	for _, s := range states(t) {
		b := told(t, s)
		m := modelOf(s)
		if len(b) != 21+96*len(m.accounts)+217*len(m.kept) {
			t.Errorf("%d bytes of %+v", len(b), m)
		}
	}
}

// TestP21_1OneByOne asks for the bytes of states of each number of accounts, and of transfers.
func TestP21_1OneByOne(t *testing.T) {
	m := modelOf(full(t))
	for n := range 33 {
		part := m.clone()
		part.accounts = part.accounts[:n]
		read(t, told(t, part.load(t)))
	}
	for n := range 97 {
		part := m.clone()
		part.accounts, part.kept = part.accounts[:n%3], part.kept[:n]
		read(t, told(t, part.load(t)))
	}
}

// TestP21_1WithoutBytes has accounts and transfers that have none: noughts stand for each, and all else is as it is.
func TestP21_1WithoutBytes(t *testing.T) {
	bad := []int{-1, math.MinInt, math.MaxInt, 1 << 32, 1<<32 + 1, -1 << 32, -1 << 16}
	for i, n := range append(bad, 1<<16, 1<<16+1) {
		m := modelOf(shop(t))
		m.accounts[i%5].Code, m.accounts[(i+1)%5].Flags = n, n
		m.kept[i].Asked.Code, m.kept[i+1].Asked.Flags = n, n
		m.kept[i+2].Move.Code, m.kept[i+3].Move.Flags = n, n
		if i < len(bad) {
			m.accounts[(i+2)%5].Ledger = n
			m.kept[i+1].Move.Ledger, m.kept[i+2].Asked.Timeout, m.kept[i+3].Asked.Ledger, m.kept[i].Move.Timeout = n, n, n, n
		}
		s := m.load(t)
		// Two accounts of noughts have one name, so that the whole isn't read.
		refused(t, told(t, s))
	}
	m := modelOf(shop(t))
	m.accounts[2].Code, m.kept[4].Move.Timeout, m.kept[5].Asked.Ledger = -1, -1, -1
	s := read(t, told(t, m.load(t)))
	m.accounts[2], m.kept[4].Move, m.kept[5].Asked = api.Account{}, api.Transfer{}, api.Transfer{}
	if !modelOf(s).is(m) {
		t.Errorf("%+v", modelOf(s))
	}
}

// TestP21_1TakenBack asks where something may still be taken back: for what is, whatever may become of it.
func TestP21_1TakenBack(t *testing.T) {
	s := shop(t)
	was := told(t, s)
	chain.Accounts(s, []api.Account{someone(30, 0)})
	chain.Transfers(s, []api.Transfer{end(31, 10, 4, post), wait(32, 1, 30, 5, 3, 0)})
	hold.Time(s, 50)
	is := told(t, s)
	if s.Mark() == 0 || is == was {
		t.Fatal("nothing can be taken back")
	}
	x := read(t, is)
	s.Back(0)
	if told(t, s) != was || told(t, x) != is {
		t.Error("not taken back")
	}
	// Of one that was read nothing is taken back of what was ahead.
	x.Back(0)
	if told(t, x) != is {
		t.Errorf("%+v", modelOf(x))
	}
}

// TestP21_1FirstByte reads bytes with each first one.
func TestP21_1FirstByte(t *testing.T) {
	for _, s := range states(t) {
		b := told(t, s)
		for n := range 256 {
			c := string([]byte{byte(n)}) + b[1:]
			if n == 1 {
				read(t, c)
			} else {
				refused(t, c)
			}
		}
	}
}

// TestP21_1Cut reads bytes cut at each place, from both ends.
func TestP21_1Cut(t *testing.T) {
	for _, s := range states(t) {
		b := told(t, s)
		for n := range len(b) {
			refused(t, b[:n])
			if n > 0 && b[n:] != "" {
				read(t, b[n:])
			}
		}
	}
}

// TestP21_1Longer reads bytes with others behind them.
func TestP21_1Longer(t *testing.T) {
	for _, s := range states(t) {
		b := told(t, s)
		for n := 1; n < 450; n++ {
			refused(t, b+strings.Repeat("\x00", n))
			refused(t, b+strings.Repeat("\x01", n))
		}
		refused(t, b+b)
		refused(t, b+told(t, books.New()))
	}
}

// with are bytes, of which some at a place are others.
func with(b string, at int, other string) string { return b[:at] + other + b[at+len(other):] }

// TestP21_1Counts reads bytes that tell of other numbers of accounts and transfers than there are.
func TestP21_1Counts(t *testing.T) {
	for _, s := range states(t) {
		b := told(t, s)
		for n := range 256 {
			for _, at := range []int{17, 18, 19, 20} {
				read(t, with(b, at, string([]byte{byte(n)})))
			}
		}
		read(t, with(b, 17, "\xff\xff\xff\xff"))
	}
	// 217 accounts are as long as 96 transfers.
	b := told(t, full(t))
	refused(t, with(b, 17, "\xf9\x00\x00\x00"))
}

// TestP21_1TooMany reads bytes of more accounts and transfers than there may be, of which all are told rightly.
func TestP21_1TooMany(t *testing.T) {
	m := modelOf(full(t))
	for n := 31; n <= 40; n++ {
		for k := 95; k <= 100; k++ {
			more := model{clock: m.clock, stamp: m.stamp}
			for i := range n {
				a := m.accounts[i%32]
				a.Id = wide.Of(uint64(i))
				more.accounts = append(more.accounts, a)
			}
			for i := range k {
				x := m.kept[i%96]
				x.Move.Id, x.Move.Stamp = wide.Of(uint64(i)), i
				more.kept = append(more.kept, x)
			}
			if s := read(t, more.bytes()); (s != nil) != (n <= 32 && k <= 96) {
				t.Errorf("%d accounts and %d transfers: %v", n, k, s != nil)
			}
		}
	}
	for _, n := range []int{256, 257, 288, 352, 65535} {
		accounts, kept := make([]api.Account, n), make([]api.Kept, n)
		for i := range n {
			accounts[i].Id, kept[i].Move.Id, kept[i].Move.Stamp = wide.Of(uint64(i)), wide.Of(uint64(i)), i
		}
		refused(t, model{accounts: accounts}.bytes())
		refused(t, model{kept: kept}.bytes())
	}
}

// TestP21_1Times reads bytes of clocks and last stamps at, by and beyond their edges.
func TestP21_1Times(t *testing.T) {
	times := []int{0, 1, 255, 256, 1<<32 - 1, 1 << 32, 1<<40 - 1, 1 << 40, 1<<40 + 1, 1 << 41, 1 << 56, math.MaxInt, -1, -2, -1 << 40, math.MinInt, math.MinInt + 1}
	for _, s := range states(t) {
		m := modelOf(s)
		for i, clock := range times {
			for j, stamp := range times {
				m.clock, m.stamp = clock, stamp
				if is := read(t, m.bytes()) != nil; is != (i < 8 && j < 8) {
					t.Errorf("at %d, behind %d: %v", clock, stamp, is)
				}
			}
		}
	}
}

// TestP21_1Fates reads bytes with each byte as each transfer's fate.
func TestP21_1Fates(t *testing.T) {
	m := modelOf(shop(t))
	b := m.bytes()
	for i := range m.kept {
		at := head + owner*len(m.accounts) + keeping*(i+1) - 1
		for n := range 256 {
			s := read(t, with(b, at, string([]byte{byte(n)})))
			if (s != nil) != (n <= 4) {
				t.Errorf("the fate %d: %v", n, s != nil)
			}
			if s != nil && s.Keeps()[i].Fate != n {
				t.Errorf("%d, not %d", s.Keeps()[i].Fate, n)
			}
		}
	}
}

// TestP21_1Twice reads bytes of two accounts, or transfers, of one name, and of two transfers of one stamp; what else two have in common doesn't matter.
func TestP21_1Twice(t *testing.T) {
	was := modelOf(shop(t))
	for i := range was.accounts {
		for j := range was.accounts {
			m := was.clone()
			m.accounts[i].Id = m.accounts[j].Id
			if is := read(t, m.bytes()) != nil; is != (i == j) {
				t.Errorf("accounts %d and %d of one name: %v", i, j, is)
			}
			m.accounts[i].Id = was.accounts[i].Id
			m.accounts[i].Stamp = m.accounts[j].Stamp
			if read(t, m.bytes()) == nil {
				t.Errorf("accounts %d and %d of one stamp", i, j)
			}
		}
	}
	for i := range was.kept {
		for j := range was.kept {
			name, stamp, asked := was.clone(), was.clone(), was.clone()
			name.kept[i].Move.Id, stamp.kept[i].Move.Stamp, asked.kept[i].Asked = was.kept[j].Move.Id, was.kept[j].Move.Stamp, was.kept[j].Asked
			if is := read(t, name.bytes()) != nil; is != (i == j) {
				t.Errorf("transfers %d and %d of one name: %v", i, j, is)
			}
			if is := read(t, stamp.bytes()) != nil; is != (i == j) {
				t.Errorf("transfers %d and %d of one stamp: %v", i, j, is)
			}
			if read(t, asked.bytes()) == nil {
				t.Errorf("transfers %d and %d asked for as one", i, j)
			}
		}
	}
}

// TestP21_1BitByBit reads a state's bytes with each bit turned.
func TestP21_1BitByBit(t *testing.T) {
	for _, b := range []string{told(t, books.New()), told(t, shop(t)), odd().bytes()} {
		for at := range len(b) {
			for bit := range 8 {
				c := with(b, at, string([]byte{b[at] ^ 1<<bit}))
				if s := read(t, c); s != nil && still.Bytes(s) != c {
					t.Fatalf("%x, not %x", still.Bytes(s), c)
				}
			}
		}
	}
}

// TestP21_1AsTheyAre reads the bytes of things that no requests could have made: nothing else is asked of them.
func TestP21_1AsTheyAre(t *testing.T) {
	m := model{accounts: []api.Account{{}, {Id: wide.Most, Flags: 0xffff, Ledger: 0, Code: 0, Stamp: -9}}, kept: []api.Kept{{Fate: 4}, {Move: api.Transfer{Id: wide.Most, Debit: wide.Of(55), Credit: wide.Of(55), Stamp: math.MinInt}, Asked: api.Transfer{Id: wide.Of(9)}, Fate: 1}}}
	if s := read(t, m.bytes()); s == nil || still.Bytes(s) != m.bytes() {
		t.Errorf("%+v", s)
	}
	for n := range 256 {
		b := "\x01" + strings.Repeat("\x00", 16) + "\x01\x00\x01\x00" + strings.Repeat(string([]byte{byte(n)}), 96+216) + string([]byte{byte(n % 5)})
		if s := read(t, b); s == nil || still.Bytes(s) != b {
			t.Errorf("%x", b)
		}
	}
}

// TestP21_1LoadRefuses has states that may be, but that can't be loaded: their bytes are told, and not read.
func TestP21_1LoadRefuses(t *testing.T) {
	late := model{stamp: 1 << 40}.load(t)
	must(t, late, api.Request{Op: 1, Accounts: []api.Account{someone(1, 0)}})
	refused(t, told(t, late))
	m := modelOf(shop(t))
	m.stamp = 4
	twins := m.load(t)
	read(t, told(t, twins))
	must(t, twins, api.Request{Op: 2, Transfers: []api.Transfer{pay(30, 1, 2, 1, 0)}})
	refused(t, told(t, twins))
}

// TestP21_1StatesKnowNothingOfOneAnother reads one text twice: what becomes of the one state doesn't become of the others.
func TestP21_1StatesKnowNothingOfOneAnother(t *testing.T) {
	s := shop(t)
	b := told(t, s)
	x, y := read(t, b), read(t, b)
	must(t, s, api.Request{Op: 3, Now: 40})
	must(t, x, api.Request{Op: 1, Accounts: []api.Account{someone(30, 0)}})
	must(t, x, api.Request{Op: 2, Transfers: []api.Transfer{pay(31, 1, 30, 5, 0)}})
	if told(t, y) != b || told(t, x) == b || told(t, s) == b || told(t, x) == told(t, s) {
		t.Error("one is another one")
	}
	if told(t, read(t, b)) != b {
		t.Error("read otherwise")
	}
}
