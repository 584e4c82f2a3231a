package script_test

import (
	"fmt"
	"math/rand"
	"slices"
	"strings"
	"testing"

	"bondstore/api"
	"bondstore/script"
)

// chances makes scripts at random, alike in each run.
type chances struct{ *rand.Rand }

func newChances(seed int64) chances { return chances{rand.New(rand.NewSource(seed))} }

// edge is a number at which something turns.
func (c chances) edge() string {
	list := []string{"0", "1", "2", "8", "16", "17", "64", "128", "65535", "65536", "4294967295", "4294967296", "1099511627776", mostSmall, overSmall, signBit, mostLow, overLow, overLow1, overLow12, mostNum}
	return list[c.Intn(len(list))]
}

// number is one below n, or, now and then, one at an edge.
func (c chances) number(n int) string {
	if c.Intn(60) == 0 {
		return c.edge()
	}
	return fmt.Sprint(c.Intn(n))
}

// numbers are some of which each is below one of a list.
func (c chances) numbers(most ...int) string {
	var told string
	for _, n := range most {
		told += " " + c.number(n)
	}
	return told
}

// item is an account, or a transfer, that is to be sent.
func (c chances) item(accounts bool) string {
	if c.Intn(30) == 0 {
		accounts = !accounts
	}
	link := c.Intn(20) / 19
	switch n := c.Intn(20); {
	case accounts && n < 2:
		return "account" + c.numbers(9, 2, 2, 17)
	case accounts:
		return fmt.Sprint("account ", 1+c.Intn(9), " ", 1+c.Intn(12)/11, " 1 ", []int{0, 0, 0, 2, 4}[c.Intn(5)]|link)
	case n < 6:
		return fmt.Sprint("end ", 6+c.Intn(9), c.numbers(6, 6)) + fmt.Sprint(" ", []int{4, 8}[c.Intn(2)]|link)
	case n < 8:
		return "move" + c.numbers(20, 9, 9, 30, 300, 9)
	case n == 8:
		return fmt.Sprint("move", c.numbers(20, 9, 9), " ", []string{mostNum, overLow}[c.Intn(2)], " ", link, " 0")
	}
	flags, timeout := []int{0, 0, 2, 2, 16, 32, 66, 130}[c.Intn(8)], 0
	if flags&2 != 0 {
		timeout = c.Intn(9)
	}
	return "move" + c.numbers(12, 7, 7, 30) + fmt.Sprint(" ", flags|link, " ", timeout)
}

// commands are one, or a batch and its sending.
func (c chances) commands(now *int) []string {
	switch n := c.Intn(60); {
	case n < 27:
		var list []string
		accounts := c.Intn(3) == 0
		for range []int{1, 1, 1, 1, 2, 3, 8, 9}[c.Intn(8)] {
			list = append(list, c.item(accounts))
		}
		return append(list, "send")
	case n < 32:
		*now += c.Intn(5)
		return []string{"tick " + c.number(*now+1)}
	case n < 46:
		return []string{[]string{"find" + c.numbers(10), "look" + c.numbers(16), "of" + c.numbers(7, 20, 18)}[c.Intn(3)]}
	case n < 49:
		return []string{"told"}
	case n < 51:
		return []string{"save"}
	case n < 54:
		return []string{"arm" + c.numbers(30)}
	case n < 59:
		return []string{"power" + c.numbers(16, 6, 140)}
	}
	return []string{[]string{"send", c.item(true), c.item(false), "new " + c.sectors(), "new" + c.numbers(700)}[c.Intn(5)]}
}

// sectors is a number of them for which there is a plan.
func (c chances) sectors() string {
	return []string{"12", "24", "60", "250", "250", "250", "600"}[c.Intn(7)]
}

// script is one of so many commands, or a few more.
func (c chances) script(n int) []string {
	var list []string
	if c.Intn(20) != 0 {
		list = append(list, "new "+c.sectors())
	}
	if c.Intn(4) != 0 {
		list = append(list, "account 1 1 1 0", "account 2 1 1 0", "account 3 1 1 2", "account 4 1 1 4", "account 5 1 1 0", "account 6 2 1 0", "send")
	}
	now := 0
	for len(list) < n {
		list = append(list, c.commands(&now)...)
	}
	return list
}

// bent is a text of which some bytes are others, or gone, or doubled.
func (c chances) bent(text string) string {
	b := []byte(text)
	for range 1 + c.Intn(3) {
		if len(b) == 0 {
			break
		}
		at := c.Intn(len(b))
		switch c.Intn(4) {
		case 0:
			b = slices.Delete(b, at, at+1)
		case 1:
			b = slices.Insert(b, at, b[at])
		case 2:
			b[at] = " \n019-a\x00\r"[c.Intn(9)]
		default:
			b[at] ^= 1 << c.Intn(8)
		}
	}
	return string(b)
}

// TestP25_1Chances runs many scripts, and counts what they tell.
func TestP25_1Chances(t *testing.T) {
	seen := map[string]int{}
	for seed := range int64(600) {
		c := newChances(seed)
		told, n, err := holds(t, strings.Join(c.script(1+c.Intn(255)), "\n"))
		if n != 0 && n != 257 {
			t.Fatalf("line %d, %d", n, err)
		}
		seen[fmt.Sprint("line ", n)]++
		for _, l := range strings.Split(strings.TrimSuffix(told, "\n"), "\n") {
			f := strings.Fields(l)
			switch {
			case len(f) > 2 && (f[1] == "account" || f[1] == "transfer"):
				l = f[1]
			case len(f) > 1 && f[0] == "ok":
				l = "results"
				for _, x := range f[1:] {
					seen["result "+x]++
				}
			case len(f) == 3:
				l = f[2]
			}
			seen[l]++
		}
	}
	for told, least := range map[string]int{
		"ok": 5000, "error 1": 1000, "error 2": 500, "error 3": 20, "error 6": 10, "error 8": 300, "error 9": 1000, "false": 500, "true": 150, "account": 700, "transfer": 150, "results": 3000, "line 0": 400, "line 257": 2,
	} {
		if seen[told] < least {
			t.Errorf("%s: %d", told, seen[told])
		}
	}
	// No account that is to be made has a balance, and no transfer both accounts and a pending one.
	for n := range 35 {
		if told := fmt.Sprint("result ", n); seen[told] < 2 && n != 7 && n != 15 && n != 25 {
			t.Errorf("%s: %d", told, seen[told])
		}
	}
}

// TestP25_1Bent runs scripts of which some bytes are others.
func TestP25_1Bent(t *testing.T) {
	seen := map[api.Errno]int{}
	for seed := range int64(6000) {
		c := newChances(seed)
		_, _, err := holds(t, c.bent(strings.Join(c.script(1+c.Intn(20)), "\n")))
		seen[err]++
	}
	if seen[api.OK] < 300 || seen[api.ErrLine] < 1000 {
		t.Error(seen)
	}
}

// TestP25_1AnyBytes runs texts that are hardly scripts.
func TestP25_1AnyBytes(t *testing.T) {
	c := newChances(1)
	words := []string{" ", " ", " ", "\n", "\n", "\n", "0", "1", "7", "12", "new", "tick", "told", "told", "save", "send", "find", "arm", "\r", "\x00", "é", "\xff", mostNum, overNum}
	good := 0
	for range 30000 {
		var text string
		for range c.Intn(9) {
			text += words[c.Intn(len(words))]
		}
		if _, _, err := holds(t, text); err == api.OK {
			good++
		}
	}
	if good < 3000 {
		t.Error(good)
	}
}

// TestP25_1Alike runs scripts one behind the other, and again: none of them is told of in another one.
func TestP25_1Alike(t *testing.T) {
	var texts, told []string
	for seed := range int64(30) {
		texts = append(texts, strings.Join(newChances(seed).script(60), "\n"))
	}
	for range 2 {
		for i, text := range texts {
			got, n, err := script.Run(text)
			if n != 0 || err != api.OK || len(told) > len(texts) && told[i] != got {
				t.Fatalf("%q: %q, %d, %d", text, got, n, err)
			}
			told = append(told, got)
		}
	}
	if !slices.Equal(told[:30], told[30:]) {
		t.Error("not alike")
	}
}

// TestP25_2Beginning runs scripts, and their beginnings.
func TestP25_2Beginning(t *testing.T) {
	for seed := range int64(12) {
		list := newChances(1000 + seed).script(100)
		whole, n, err := script.Run(strings.Join(list, "\n"))
		if n != 0 || err != api.OK || strings.Count(whole, "\n") != len(list) {
			t.Fatalf("%q, %d, %d", whole, n, err)
		}
		for i := range len(list) + 1 {
			for _, end := range []string{"", "\n"} {
				got, n, err := script.Run(strings.Join(list[:i], "\n") + end)
				if n != 0 || err != api.OK || strings.Count(got, "\n") != i || !strings.HasPrefix(whole, got) {
					t.Fatalf("%q: %q, %d, %d", list[:i], got, n, err)
				}
			}
		}
	}
}

// TestP25_2EmptyLines runs scripts with empty lines anywhere.
func TestP25_2EmptyLines(t *testing.T) {
	for seed := range int64(150) {
		c := newChances(2000 + seed)
		list := c.script(1 + c.Intn(250))
		list = list[:min(len(list), 256)]
		want, _, _ := script.Run(strings.Join(list, "\n"))
		var text string
		for _, l := range list {
			text += strings.Repeat("\n", c.Intn(3)/2*c.Intn(20)) + l + "\n"
		}
		text += strings.Repeat("\n", c.Intn(9))
		if got, n, err := script.Run(text); got != want || n != 0 || err != api.OK || want == "" {
			t.Fatalf("%q: %q, %d, %d, not %q", text, got, n, err, want)
		}
	}
}

// TestP25_2WrongLine puts lines that are no commands, among others and empty ones, into scripts: the first one is told.
func TestP25_2WrongLine(t *testing.T) {
	wrong := []string{" ", "what", "told 1", "tick", "tick 01", "new 12 ", "account 1 1 1", "power 0 0 0 0", "of 1 0 -1", "arm 1.5", "find " + overNum, "\r"}
	for seed := range int64(500) {
		c := newChances(3000 + seed)
		list := c.script(1 + c.Intn(100))
		for range c.Intn(20) {
			list = slices.Insert(list, c.Intn(len(list)+1), "")
		}
		at := c.Intn(len(list) + 1)
		list = slices.Insert(list, at, wrong[c.Intn(len(wrong))])
		for range c.Intn(3) {
			list = slices.Insert(list, at+1+c.Intn(len(list)-at), wrong[c.Intn(len(wrong))])
		}
		refuses(t, strings.Join(list, "\n"), at+1)
	}
}
