package script_test

import (
	"fmt"
	"strings"
	"testing"

	"bondstore/api"
	"bondstore/script"
)

// The numbers at which something turns.
const (
	mostSmall = "4611686018427387903"                     // 2^62 - 1
	overSmall = "4611686018427387904"                     // 2^62
	signBit   = "9223372036854775808"                     // 2^63
	mostLow   = "18446744073709551615"                    // 2^64 - 1
	overLow   = "18446744073709551616"                    // 2^64
	overLow1  = "18446744073709551617"                    // 2^64 + 1
	overLow12 = "18446744073709551628"                    // 2^64 + 12
	mostNum   = "340282366920938463463374607431768211455" // 2^128 - 1
	overNum   = "340282366920938463463374607431768211456" // 2^128
)

// two makes a store of so many sectors with two accounts, of which the first one owns, and the second one owes.
func two(sectors int) []string {
	return []string{fmt.Sprint("new ", sectors), "account 1 1 1 0", "account 2 1 1 2", "send > ok 0 0"}
}

func with(ahead []string, more ...string) []string {
	return append(ahead[:len(ahead):len(ahead)], more...)
}

func TestP25_1Example(t *testing.T) {
	tells(t, "new 12", "tick 5", "told > 1 0 false")
}

// TestP25_1Empty runs scripts without a command.
func TestP25_1Empty(t *testing.T) {
	for _, text := range []string{"", "\n", "\n\n", strings.Repeat("\n", 1000)} {
		if got, n, err := script.Run(text); got != "" || n != 0 || err != api.OK {
			t.Errorf("%.9q: %q, %d, %d", text, got, n, err)
		}
	}
}

// TestP25_1NoStore plays all commands without a store.
func TestP25_1NoStore(t *testing.T) {
	tells(t, "told > 0 0 false", "tick 1 > error 2", "find 1 > error 2", "look 1 > error 2", "of 1 0 1 > error 2",
		"save > error 2", "power 0 0 0 > error 2", "arm 1", "arm 0", "account 1 1 1 0", "send > error 2", "move 1 1 2 1 0 0",
		"end 2 1 0 4", "send > error 2", "new 0 > error 1", "told > 0 0 false", "tick 1 > error 2")
	// What has no bytes is asked of nobody.
	tells(t, "send > error 1", "tick 1099511627777 > error 1", "of 1 0 0 > error 1", "of 1 0 17 > error 1", "account 1 4294967296 1 0", "send > error 1")
}

// TestP25_1New makes stores of as many sectors as there may be, and of others.
func TestP25_1New(t *testing.T) {
	for _, n := range []string{"12", "13", "600", "4095", "4096"} {
		tells(t, "new "+n, "tick 1", "told > 1 0 false", "save", "told > 1 1 false")
	}
	for _, n := range []string{"0", "1", "11", "4097", "65536", mostSmall, overSmall, signBit, mostLow, overLow, overLow12, mostNum} {
		tells(t, "new "+n+" > error 1", "told > 0 0 false", "tick 1 > error 2", "new 12", "tick 1", "new "+n+" > error 1", "told > 1 0 false", "tick 2", "told > 2 0 false")
	}
	tells(t, with(two(600), "find 1 > ok account 1 0 0 0 0 0", "save", "new 600", "told > 0 0 false", "find 1 > ok")...)
	// Nothing that was armed, or refused, goes over to a new one.
	tells(t, "new 12", "arm 1", "tick 1 > error 8", "told > 0 0 true", "new 12", "told > 0 0 false", "tick 1", "arm 1", "new 12", "tick 1")
}

// TestP25_1Account makes accounts, of which some can't be.
func TestP25_1Account(t *testing.T) {
	tells(t, "new 600", "account 7 5 6 0", "account 8 4294967295 65535 4", "account "+overLow+" 1 1 2", "send > ok 0 0 0",
		"find 7 > ok account 7 0 0 0 0 0", "find 8 > ok account 8 0 0 0 0 4", "find "+overLow+" > ok account "+overLow+" 0 0 0 0 2", "find 0 > ok", "find "+mostNum+" > ok",
		"account 7 5 6 0", "account 7 5 5 0", "account 7 6 6 0", "account 7 5 6 2", "account 0 1 1 0", "account "+mostNum+" 1 1 0", "account 9 0 1 0", "account 9 1 0 0", "send > ok 10 11 11 11 4 5 8 9",
		"account 9 1 1 8", "account 9 1 1 16", "account 9 1 1 6", "account 9 1 1 65534", "send > ok 3 3 6 3",
		"account 9 1 1 1", "account 10 1 0 1", "account 11 1 1 0", "send > ok 1 9 1", "find 9 > ok", "account 9 1 1 1", "send > ok 2", "told > 5 0 false")
	for _, n := range []string{mostSmall, overSmall, signBit, mostLow, overLow, overLow1, mostNum} {
		for _, line := range []string{"account 1 " + n + " 1 0", "account 1 1 " + n + " 0", "account 1 1 1 " + n} {
			tells(t, "new 12", line, "send > error 1", "told > 0 0 false")
		}
	}
	tells(t, "new 12", "account 1 4294967296 1 0", "send > error 1", "account 1 1 65536 0", "send > error 1", "account 1 1 1 65536", "send > error 1", "told > 0 0 false")
}

// TestP25_1Move does transfers of all kinds.
func TestP25_1Move(t *testing.T) {
	tells(t, with(two(600), "move 10 1 2 50 0 0", "move 11 2 1 20 2 5", "move 12 2 1 31 0 0", "move "+overLow1+" 2 1 99 16 0", "send > ok 0 0 33 0",
		"find 1 > ok account 1 0 50 20 30 0", "find 2 > ok account 2 20 30 0 50 2", "look 10 > ok transfer 10 1 2 50 3", "look 11 > ok transfer 11 2 1 20 4", "look 12 > ok",
		"look "+overLow1+" > ok transfer "+overLow1+" 2 1 30 5",
		"tick 5", "find 2 > ok account 2 0 30 0 50 2", "move 13 1 2 "+mostNum+" 0 0", "send > ok 32", "move 13 1 2 340282366920938463463374607431768211405 0 0", "send > ok 0",
		"find 1 > ok account 1 0 "+mostNum+" 0 30 0", "look 13 > ok transfer 13 1 2 340282366920938463463374607431768211405 6")...)
	// The ledger, and the code, are 1.
	tells(t, "new 600", "account 1 1 9 0", "account 2 1 9 0", "account 3 2 9 0", "account 4 2 9 0", "send > ok 0 0 0 0", "move 1 1 2 1 0 0", "move 2 3 4 1 0 0", "move 3 1 3 1 0 0", "send > ok 0 22 21")
	tells(t, with(two(600), "move 0 1 2 1 0 0", "move "+mostNum+" 1 2 1 0 0", "move 3 0 2 1 0 0", "move 3 1 0 1 0 0", "move 3 1 1 1 0 0", "move 3 1 2 0 0 0", "move 3 9 2 1 0 0", "move 3 1 9 1 0 0", "send > ok 4 5 12 13 14 18 19 20",
		"move 3 1 2 1 2 1073741824", "move 4 1 2 1 2 1073741825", "move 4 1 2 1 0 1", "move 4 1 2 1 256 0", "move 4 1 2 1 4 0", "move 4 1 2 1 12 0", "move 4 1 2 1 1 0", "move 5 1 2 0 0 0", "send > ok 0 17 17 3 16 6 1 18",
		"move 6 1 2 1 65534 4294967295", "send > ok 3")...)
	for _, n := range []string{mostSmall, overSmall, signBit, mostLow, overLow, overLow1, mostNum} {
		tells(t, with(two(12), "move 1 1 2 1 2 "+n, "send > error 1", "move 1 1 2 1 "+n+" 0", "send > error 1", "told > 1 0 false")...)
	}
	tells(t, with(two(12), "move 1 1 2 1 2 4294967296", "send > error 1", "move 1 1 2 1 65536 0", "send > error 1")...)
}

// TestP25_1End posts and voids pending transfers.
func TestP25_1End(t *testing.T) {
	pending := with(two(600), "move 10 1 2 50 0 0", "move 11 2 1 20 2 5", "move 12 2 1 9 2 0", "send > ok 0 0 0")
	tells(t, with(pending, "end 13 11 7 4", "end 14 12 0 8", "send > ok 0 0", "look 13 > ok transfer 13 2 1 7 6", "look 14 > ok transfer 14 2 1 9 7", "find 1 > ok account 1 0 50 0 7 0",
		"end 13 11 7 4", "end 14 12 9 8", "end 15 11 0 4", "end 15 12 0 4", "end 15 99 0 4", "end 15 10 0 4", "end 0 11 0 4", "end 15 0 0 8", "send > ok 10 11 27 28 23 24 4 16")...)
	tells(t, with(pending, "end 13 11 21 4", "end 13 12 8 8", "end 13 11 0 0", "end 13 11 1 12", "end 13 11 1 256", "end 13 11 "+overLow12+" 4", "send > ok 26 26 12 6 3 26", "tick 5", "end 13 11 0 4", "end "+overLow1+" 12 0 4", "send > ok 29 0", "look "+overLow1+" > ok transfer "+overLow1+" 2 1 9 6")...)
	tells(t, with(pending, "move "+overLow+" 1 2 1 66 0", "end 13 "+overLow+" 0 5", "end 14 11 "+mostNum+" 4", "send > ok 0 1 26", "find 1 > ok account 1 1 50 29 0 8", "end 13 "+overLow+" 0 8", "end 14 11 20 4", "send > ok 0 0", "find 1 > ok account 1 0 50 9 20 0")...)
	for _, n := range []string{"65536", mostSmall, overSmall, signBit, mostLow, overLow, "18446744073709551620", mostNum} {
		tells(t, with(pending, "end 13 11 7 "+n, "send > error 1")...)
	}
}

// TestP25_1Send sends as many items as there may be, and more, and none.
func TestP25_1Send(t *testing.T) {
	var lines []string
	for i := range 8 {
		lines = append(lines, fmt.Sprintf("account %d 1 1 0", i+1))
	}
	for _, more := range []string{"account 9 1 1 0", "account 1 1 1 0", "account 0 0 0 0"} {
		tells(t, with([]string{"new 600"}, with(lines, "send > ok 0 0 0 0 0 0 0 0", "send > error 1", "told > 1 0 false")...)...)
		tells(t, with([]string{"new 600"}, with(lines, more, "send > error 1", "find 1 > ok", "send > error 1", more, "account 2 1 1 0", "told > 0 0 false")...)...)
	}
	moves := with(lines, "send > ok 0 0 0 0 0 0 0 0")
	for i := range 8 {
		moves = append(moves, fmt.Sprintf("move %d %d %d 5 0 0", i+1, i+1, (i+1)%8+1))
	}
	tells(t, with([]string{"new 600"}, with(moves, "send > ok 0 0 0 0 0 0 0 0", "send > error 1")...)...)
	for _, more := range []string{"move 9 1 2 1 0 0", "end 9 1 0 4"} {
		tells(t, with([]string{"new 600"}, with(moves, more, "send > error 1", "send > error 1", "look 1 > ok", "told > 1 0 false")...)...)
	}
	// One item that has no bytes keeps all of them from being asked for.
	tells(t, "new 12", "account 1 1 1 0", "account 2 1 65536 0", "account 3 1 1 0", "send > error 1", "find 1 > ok", "account 3 1 1 0", "send > ok 0")
}

// TestP25_1Full makes as many accounts, and does as many transfers, as there may be.
func TestP25_1Full(t *testing.T) {
	lines := []string{"new 600"}
	for i := range 32 {
		lines = append(lines, fmt.Sprintf("account %d 1 1 0", i+1))
		if i%8 == 7 {
			lines = append(lines, "send > ok 0 0 0 0 0 0 0 0")
		}
	}
	lines = append(lines, "account 33 1 1 0", "account 32 1 1 0", "send > ok 35 10", "find 33 > ok")
	for i := range 96 {
		lines = append(lines, fmt.Sprintf("move %d 31 32 %d 0 0", i+1, i+1))
		if i%8 == 7 {
			lines = append(lines, "send > ok 0 0 0 0 0 0 0 0")
		}
	}
	tells(t, with(lines, "move 97 31 32 1 0 0", "move 96 31 32 96 0 0", "send > ok 35 10", "look 97 > ok", "find 32 > ok account 32 0 0 0 4656 0", "told > 18 1 false", "save", "power 0 0 0", "look 96 > ok transfer 96 31 32 96 128")...)
}

// TestP25_1Forgotten mixes both kinds of items: those ahead of one of the other kind play no part.
func TestP25_1Forgotten(t *testing.T) {
	tells(t, with(two(600), "account 3 1 1 0", "move 1 1 2 1 0 0", "send > ok 0", "find 3 > ok", "look 1 > ok transfer 1 1 2 1 3",
		"move 2 1 2 1 0 0", "account 3 1 1 0", "send > ok 0", "find 3 > ok account 3 0 0 0 0 0", "look 2 > ok",
		"account 4 1 1 0", "end 3 1 0 4", "send > ok 24", "find 4 > ok", "end 3 1 0 4", "account 4 1 1 0", "account 5 1 1 0", "send > ok 0 0",
		"move 2 1 2 1 0 0", "account 6 1 1 0", "move 4 1 2 1 0 0", "end 5 4 0 4", "send > ok 0 24", "find 6 > ok", "look 2 > ok", "send > error 1",
		"account 6 1 1 0", "move 5 1 2 1 0 0", "account 7 1 1 0", "send > ok 0", "find 6 > ok", "look 5 > ok")...)
	// Nine of the one kind are none behind the other one.
	nine := with(nil, "new 12")
	for range 9 {
		nine = append(nine, "account 1 1 1 0")
	}
	tells(t, with(nine, "end 1 9 0 4", "send > ok 23")...)
	// What is between an item and its sending doesn't touch it.
	tells(t, "account 1 1 1 0", "new 12", "account 2 1 1 0", "tick 1", "find 1 > ok", "look 1 > ok", "of 1 0 1 > ok", "save", "power 0 0 0", "told > 1 1 false", "arm 0", "new 11 > error 1", "send > ok 0 0", "find 1 > ok account 1 0 0 0 0 0")
	tells(t, with(two(12), "move 1 1 2 1 2 9", "new 600", "end 2 1 0 8", "tick 4", "account 1 1 1 0", "account 2 1 1 0", "send > ok 0 0", "send > error 1")...)
	tells(t, "account 1 1 1 0", "new 12", "send > ok 0", "move 1 1 2 1 0 0", "new 13", "end 2 1 0 4", "new 600", "send > ok 19 23")
	// What was refused isn't asked for again.
	tells(t, "account 1 1 1 0", "send > error 2", "new 12", "send > error 1", "account 1 1 1 0", "arm 1", "send > error 8", "send > error 1", "account 1 1 1 0", "send > error 9", "power 0 0 0", "send > error 1", "find 1 > ok")
}

// TestP25_1Tick lets time go on, as far as it may.
func TestP25_1Tick(t *testing.T) {
	tells(t, with(two(600), "move 1 1 2 3 2 7", "move 2 1 2 4 2 8", "send > ok 0 0", "tick 0", "tick 6", "find 1 > ok account 1 7 0 0 0 0", "tick 7", "find 1 > ok account 1 4 0 0 0 0", "tick 3", "tick 8", "find 1 > ok account 1 0 0 0 0 0", "tick 1099511627776", "told > 8 0 false")...)
	for _, n := range []string{"1099511627777", mostSmall, overSmall, signBit, mostLow, overLow, overLow1, mostNum} {
		tells(t, "new 12", "tick "+n+" > error 1", "told > 0 0 false")
	}
}

// TestP25_1Of asks for the transfers of an account.
func TestP25_1Of(t *testing.T) {
	lines := with(two(600), "account 3 1 1 0", "send > ok 0")
	for i := range 20 {
		line := fmt.Sprintf("move %d %d %d %d 0 0", i+1, []int{1, 1, 3}[i%3], []int{2, 3, 1}[i%3], 10*i+10)
		lines = append(lines, line, "send > ok 0")
	}
	some := func(debits, credits bool, from, limit int) string {
		told := "ok"
		for i := range 20 {
			if stamp := i + 4; limit > 0 && stamp >= from && (i%3 == 2 && credits || i%3 == 1 && debits || i%3 == 0) {
				told += fmt.Sprintf(" transfer %d %d %d %d %d", i+1, []int{1, 1, 3}[i%3], []int{2, 3, 1}[i%3], 10*i+10, stamp)
				limit--
			}
		}
		return told
	}
	for _, from := range []int{0, 1, 3, 4, 5, 9, 19, 20, 22, 23, 24, 1 << 40, 1<<62 - 1} {
		for _, limit := range []int{1, 2, 15, 16} {
			tells(t, with(lines, fmt.Sprintf("of 1 %d %d > %s", from, limit, some(true, true, from, limit)))...)
		}
	}
	for _, n := range []string{"0", "17", mostSmall, overSmall, signBit, mostLow, overLow, overLow1, mostNum} {
		tells(t, with(lines, "of 1 0 "+n+" > error 1")...)
	}
	for _, n := range []string{overSmall, signBit, mostLow, overLow, overLow1, mostNum} {
		tells(t, with(lines, "of 1 "+n+" 16 > ok")...)
	}
	tells(t, with(lines, "of 4 0 16 > ok", "of 0 0 16 > ok", "of "+overLow1+" 0 16 > ok", "of "+mostNum+" 0 16 > ok", "of 2 23 1 > ok", "of 2 22 1 > ok transfer 19 1 2 190 22", "told > 22 0 false")...)
}

// TestP25_1Find asks for names that are there, and others.
func TestP25_1Find(t *testing.T) {
	tells(t, with(two(600), "account "+overLow1+" 1 1 4", "send > ok 0", "move 1 1 2 6 0 0", "move "+overLow+" 2 1 5 2 0", "send > ok 0 0",
		"find 1 > ok account 1 0 6 5 0 0", "find "+overLow1+" > ok account "+overLow1+" 0 0 0 0 4", "find 3 > ok", "find 0 > ok", "find "+overLow+" > ok", "find "+mostNum+" > ok",
		"look 1 > ok transfer 1 1 2 6 4", "look "+overLow+" > ok transfer "+overLow+" 2 1 5 5", "look 2 > ok", "look 0 > ok", "look "+overLow1+" > ok", "look "+mostNum+" > ok")...)
}

// TestP25_1Save saves books that fit into a slot, and others, on a disk that refuses.
func TestP25_1Save(t *testing.T) {
	tells(t, "new 12", "save", "save", "told > 0 2 false", "tick 9", "save", "told > 1 3 false", "power 0 0 0", "told > 1 3 false")
	tells(t, with(two(16), "save", "account 3 1 1 0", "account 4 1 1 0", "account 5 1 1 0", "account 6 1 1 0", "account 7 1 1 0", "send > error 6", "told > 1 2 false")...)
	many := []string{"new 30"}
	for i := range 12 {
		many = append(many, fmt.Sprintf("account %d 1 1 0", i+1), "send > ok 0")
	}
	tells(t, with(many[:1+2*9], "told > 9 2 false", "save", "told > 9 3 false")...)
	tells(t, with(many, "told > 12 3 false", "save > error 3", "tick 1 > error 3", "account 13 1 1 0", "send > error 3", "told > 12 3 false", "find 12 > ok account 12 0 0 0 0 0", "find 13 > ok", "power 0 0 0", "told > 12 3 false")...)
	tells(t, "new 12", "arm 1", "save > error 8", "told > 0 0 true", "save > error 9", "tick 1 > error 9", "power 0 0 0", "told > 0 0 false", "save", "told > 0 1 false")
}

// TestP25_1Power lets the power go behind a request whose sync was refused.
func TestP25_1Power(t *testing.T) {
	ahead := []string{"new 600", "tick 1", "arm 2", "tick 2 > error 8", "told > 1 0 true"}
	kept, gone := "told > 2 0 false", "told > 1 0 false"
	for _, x := range []struct{ numbers, told string }{
		{"0 1 0", gone},
		{"1 1 0", kept},
		{"2 1 0", gone},
		{"3 1 0", kept},
		{"0 0 128", kept},
		{"1 0 0", gone},
		{"1 0 99", gone},
		{"0 0 99", gone},
		{"0 0 " + mostSmall, kept},
		{"0 0 " + signBit, kept},
		{"0 0 " + mostLow, kept},
		{"0 0 " + overLow, kept},
		{"0 0 " + mostNum, kept},
		{"1 " + mostSmall + " 0", kept},
		{"1 " + mostLow + " 0", kept},
		{"1 " + overLow + " 0", kept},
		{"0 " + overLow + " 128", gone},
		{"1 " + mostNum + " 0", kept},
		{mostSmall + " 1 0", kept},
		{overSmall + " 1 0", gone},
		{signBit + " 1 0", gone},
		{"9223372036854775809 1 0", kept},
		{mostLow + " 1 0", kept},
		{overLow + " 1 0", gone},
		{overLow1 + " 1 0", kept},
		{mostNum + " 1 0", kept},
		{"340282366920938463463374607431768211454 1 0", gone},
	} {
		tells(t, with(ahead, "power "+x.numbers, x.told, "tick 3", "power 0 0 0", strings.Replace(strings.Replace(x.told, "2 0", "3 0", 1), "1 0", "2 0", 1))...)
	}
	tells(t, with(two(600), "power 0 0 0", "power "+mostNum+" 0 0", "told > 1 0 false", "find 2 > ok account 2 0 0 0 0 2", "move 1 1 2 3 0 0", "power 0 0 0", "send > ok 0")...)
}

// TestP25_1Arm lets operations be refused, sooner and later.
func TestP25_1Arm(t *testing.T) {
	for arm, then := range [][]string{
		{"tick 1", "tick 2", "tick 3", "told > 3 0 false"},
		{"tick 1 > error 8", "tick 2 > error 9", "tick 3 > error 9", "told > 0 0 true"},
		{"tick 1 > error 8", "tick 2 > error 9", "tick 3 > error 9", "told > 0 0 true"},
		{"tick 1", "tick 2 > error 8", "tick 3 > error 9", "told > 1 0 true"},
		{"tick 1", "tick 2 > error 8", "tick 3 > error 9", "told > 1 0 true"},
		{"tick 1", "tick 2", "tick 3 > error 8", "told > 2 0 true"},
	} {
		again := strings.Replace(then[3], "true", "false", 1)
		tells(t, with([]string{"new 600", fmt.Sprint("arm ", arm)}, with(then, "power 0 0 0", again)...)...)
	}
	for _, n := range []string{"0", "5", "1000", mostSmall, overSmall, signBit, mostLow, overLow, overLow1, mostNum} {
		tells(t, "new 12", "arm 1", "arm "+n, "tick 1", "told > 1 0 false")
	}
	tells(t, "new 12", "arm 3", "arm 1", "tick 1 > error 8", "find 1 > ok", "look 1 > ok", "of 1 0 1 > ok", "send > error 1", "account 1 1 1 0", "send > error 9")
}

// TestP25_1Wrong runs lines that are no commands.
func TestP25_1Wrong(t *testing.T) {
	for word, n := range counts() {
		line := word + strings.Repeat(" 1", n)
		for _, bad := range []string{
			line + " ", " " + line, line + " 1", line + " 1 1", line + "\r", line + "\t", "\t" + line, line + "\x00", line + "\v", line + "s", line + " x",
			strings.ToUpper(line), strings.ToUpper(word[:1]) + line[1:], word[1:] + strings.Repeat(" 1", n), word + word, word + "1", "x " + line, " ", "  ", "1", "1 " + line, line + " " + line,
			line + ";", line + "#", "#", "", line[:len(line)-1] + "\xff",
		} {
			if bad == "" {
				continue
			}
			refuses(t, bad, 1)
			refuses(t, "told\n\n"+bad+"\nsend", 3)
		}
		for at := range n {
			for _, bad := range []string{"", "01", "00", "-1", "+1", "1.0", "0x1", "1_0", "1e3", "x", "١", "１", "1 ", " 1", "1\t", "\t1", "1\x00", "1,", overNum, mostNum + "0", strings.Repeat("9", 50), "0" + mostNum, strings.Repeat("0", 999)} {
				list := strings.Split(line, " ")
				list[1+at] = bad
				refuses(t, strings.Join(list, " "), 1)
			}
		}
		if n > 0 {
			refuses(t, word, 1)
			refuses(t, line[:len(line)-2], 1)
			refuses(t, strings.Replace(line, " ", "  ", 1), 1)
			refuses(t, strings.Replace(line, " ", "\t", 1), 1)
			refuses(t, strings.Replace(line, " ", "", 1), 1)
		}
		holds(t, line)
	}
	for _, bad := range []string{"what", "ok", "error 1", "transfer 1", "news 12", "ne 12", "old", "tel", "a", "ä", "tick\x001", "told\x00", "told\u00a0", "\ufefftold", "told\u2028told", "told\u0085", "told\rtold"} {
		refuses(t, bad, 1)
	}
}

// TestP25_1Steps runs as many commands as there may be, and more.
func TestP25_1Steps(t *testing.T) {
	all := func(n int) []string {
		return strings.Split(strings.TrimSuffix(strings.Repeat("told\n", n), "\n"), "\n")
	}
	for _, n := range []int{1, 255, 256} {
		got, line, err := script.Run(strings.Join(all(n), "\n"))
		if got != strings.Repeat("0 0 false\n", n) || line != 0 || err != api.OK {
			t.Errorf("%d: %q, %d, %d", n, got, line, err)
		}
	}
	for _, n := range []int{257, 258, 1000} {
		refuses(t, strings.Join(all(n), "\n"), 257)
		refuses(t, strings.Join(all(n), "\n\n"), 513)
		refuses(t, "\n\n"+strings.Join(all(n), "\n")+"\n", 259)
	}
	holds(t, strings.Join(all(256), "\n\n"))
	refuses(t, strings.Join(with(all(256), "what"), "\n"), 257)
	refuses(t, strings.Join(with(all(256), "", "", "what"), "\n"), 259)
	refuses(t, strings.Join(with(all(255), "what", "told", "told"), "\n"), 256)
	refuses(t, strings.Join(with(all(3), with([]string{"told 1"}, all(500)...)...), "\n"), 4)
}

// TestP25_1Long runs scripts as long as they may be, and longer.
func TestP25_1Long(t *testing.T) {
	fill := func(text string, n int, more string) string { return text + strings.Repeat(more, n-len(text)) }
	for _, n := range []int{65535, 65536} {
		for _, text := range []string{"", "new 12\ntick 5\ntold\n"} {
			holds(t, fill(text, n, "\n"))
			refuses(t, fill(text, n, "x"), strings.Count(text, "\n")+1)
			refuses(t, fill(text, n, " "), strings.Count(text, "\n")+1)
			refuses(t, fill(text+"find ", n, "9"), strings.Count(text, "\n")+1)
			refuses(t, fill(text+"find", n-1, " ")+"1", strings.Count(text, "\n")+1)
			refuses(t, fill(text, n-1, "\n")+"x", n-len(text)+strings.Count(text, "\n"))
		}
	}
	for _, n := range []int{65537, 65538, 1 << 17, 1 << 20} {
		for _, text := range []string{"", "told\n", "what\n", "told 1\n"} {
			for _, more := range []string{"\n", "x", " ", "0"} {
				if got, line, err := script.Run(fill(text, n, more)); got != "" || line != 0 || err != api.ErrLong {
					t.Errorf("%q: %q, %d, %d", text, got, line, err)
				}
			}
		}
	}
}
