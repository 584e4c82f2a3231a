package script_test

import (
	"fmt"
	"math/big"
	"regexp"
	"strings"
	"testing"

	"bondstore/api"
	"bondstore/platter"
	"bondstore/script"
	"bondstore/slot"
	"bondstore/vault"
	"bondstore/wire"
)

// counts tells of each command how many numbers it has.
func counts() map[string]int {
	return map[string]int{
		"new": 1, "account": 4, "move": 6, "end": 4, "send": 0, "tick": 1, "find": 1, "look": 1,
		"of": 3, "save": 0, "power": 3, "arm": 1, "told": 0,
	}
}

// model plays commands over a disk and a vault of its own, without a store, and without bytes.
type model struct {
	disk  *platter.Disk
	vault *vault.Vault
	made  []api.Account
	moved []api.Transfer
}

// want is what a script should tell.
func want(text string) (string, int, api.Errno) {
	if len(text) > 65536 {
		return "", 0, 3
	}
	shape := regexp.MustCompile(`^[a-z]+( (0|[1-9][0-9]*))*$`)
	lines, steps := strings.Split(text, "\n"), 0
	for i, l := range lines {
		if l == "" {
			continue
		}
		f := strings.Fields(l)
		n, is := 0, shape.MatchString(l)
		if is {
			n, is = counts()[f[0]]
		}
		if !is || n != len(f)-1 || steps == 256 {
			return "", i + 1, 60
		}
		for _, digits := range f[1:] {
			if big10(digits).BitLen() > 128 {
				return "", i + 1, 60
			}
		}
		steps++
	}
	var told string
	m := new(model)
	for _, l := range lines {
		if l != "" {
			told += m.play(strings.Fields(l)) + "\n"
		}
	}
	return told, 0, 0
}

func big10(digits string) *big.Int {
	n, ok := new(big.Int).SetString(digits, 10)
	if !ok {
		panic(digits)
	}
	return n
}

// num is what digits are, and small what they are where they are no name and no amount.
func num(digits string) api.Num {
	n := big10(digits)
	return api.Num{Hi: new(big.Int).Rsh(n, 64).Uint64(), Lo: low(digits)}
}

// low is what digits are modulo 2^64.
func low(digits string) uint64 {
	n := big10(digits)
	return n.And(n, new(big.Int).SetUint64(1<<64-1)).Uint64()
}

func small(digits string) int {
	if n := big10(digits); n.BitLen() <= 62 {
		return int(n.Int64())
	}
	return 4611686018427387903
}

// play does one command, and answers what it tells.
func (m *model) play(f []string) string {
	switch f[0] {
	case "new":
		n := small(f[1])
		if _, err := slot.Of(n); err != 0 {
			return "error 1"
		}
		m.disk = platter.New(n)
		m.vault, _ = vault.Open(m.disk)
	case "account":
		m.moved = nil
		m.made = append(m.made, api.Account{Id: num(f[1]), Ledger: small(f[2]), Code: small(f[3]), Flags: small(f[4])})
	case "move":
		m.made = nil
		m.moved = append(m.moved, api.Transfer{Id: num(f[1]), Debit: num(f[2]), Credit: num(f[3]), Amount: num(f[4]), Flags: small(f[5]), Timeout: small(f[6]), Ledger: 1, Code: 1})
	case "end":
		m.made = nil
		m.moved = append(m.moved, api.Transfer{Id: num(f[1]), Pending: num(f[2]), Amount: num(f[3]), Flags: small(f[4])})
	case "save":
		return outcome(m.vault.Save())
	case "power":
		return m.power(low(f[1]), small(f[2]), small(f[3]))
	case "arm":
		m.disk.Arm(small(f[1]))
	case "told":
		return fmt.Sprint(m.vault.Seq(), " ", m.vault.Turn(), " ", m.vault.Sick())
	default:
		return m.reply(m.request(f))
	}
	return "ok"
}

func outcome(err api.Errno) string {
	if err != 0 {
		return fmt.Sprint("error ", int(err))
	}
	return "ok"
}

func (m *model) power(mask uint64, torn, cut int) string {
	if m.disk == nil {
		return "error 2"
	}
	m.disk.Crash(mask, torn, cut)
	v, err := vault.Open(m.disk)
	if err == 0 {
		m.vault = v
	}
	return outcome(err)
}

// request is what a command asks for.
func (m *model) request(f []string) api.Request {
	switch f[0] {
	case "tick":
		return api.Request{Op: 3, Now: small(f[1])}
	case "find":
		return api.Request{Op: 4, Ids: []api.Num{num(f[1])}}
	case "look":
		return api.Request{Op: 5, Ids: []api.Num{num(f[1])}}
	case "of":
		return api.Request{Op: 6, Filter: api.Filter{Account: num(f[1]), From: small(f[2]), Limit: small(f[3]), Debits: true, Credits: true}}
	}
	q := api.Request{Accounts: m.made, Transfers: m.moved}
	switch {
	case len(m.made) > 0:
		q.Op = 1
	case len(m.moved) > 0:
		q.Op = 2
	}
	m.made, m.moved = nil, nil
	return q
}

// reply is what a request tells.
func (m *model) reply(q api.Request) string {
	if !wire.Good(q) {
		return "error 1"
	}
	p := m.vault.Do(q)
	told := outcome(p.Err)
	for _, n := range p.Results {
		told += fmt.Sprint(" ", int(n))
	}
	for _, a := range p.Accounts {
		told += " account" + digits(a.Id, a.DebitsPending, a.DebitsPosted, a.CreditsPending, a.CreditsPosted) + fmt.Sprint(" ", a.Flags)
	}
	for _, x := range p.Transfers {
		told += " transfer" + digits(x.Id, x.Debit, x.Credit, x.Amount) + fmt.Sprint(" ", x.Stamp)
	}
	return told
}

// digits are those of numbers, with a blank ahead of each.
func digits(list ...api.Num) string {
	var all string
	for _, n := range list {
		x := new(big.Int).SetUint64(n.Hi)
		all += " " + x.Lsh(x, 64).Or(x, new(big.Int).SetUint64(n.Lo)).String()
	}
	return all
}

// holds holds a script to what it should tell, and answers that.
func holds(t *testing.T, text string) (string, int, api.Errno) {
	t.Helper()
	told, line, err := want(text)
	if got, n, e := script.Run(text); got != told || n != line || e != err {
		t.Fatalf("%.4000q: %q, %d, %d, not %q, %d, %d", text, got, n, e, told, line, err)
	}
	return told, line, err
}

// tells holds a script to lines that are written out: what is to be told follows each command behind an arrow.
func tells(t *testing.T, both ...string) {
	t.Helper()
	var lines, want []string
	for _, x := range both {
		line, told, is := strings.Cut(x, " > ")
		if !is {
			told = "ok"
		}
		lines, want = append(lines, line), append(want, told)
	}
	text := strings.Join(lines, "\n")
	got, n, err := script.Run(text)
	if n != 0 || err != api.OK || strings.Count(got, "\n") != len(lines) || !strings.HasSuffix(got, "\n") {
		t.Fatalf("%q: %q, %d, %d", text, got, n, err)
	}
	for i, l := range strings.Split(strings.TrimSuffix(got, "\n"), "\n") {
		if l != want[i] {
			t.Errorf("line %d, %s: %s, not %s", i+1, lines[i], l, want[i])
		}
	}
	holds(t, text)
}

// refuses holds a script to the number of a line that is no command.
func refuses(t *testing.T, text string, line int) {
	t.Helper()
	if got, n, err := script.Run(text); got != "" || n != line || err != api.ErrLine {
		t.Errorf("%.300q: %q, %d, %d, not line %d", text, got, n, err, line)
	}
	holds(t, text)
}
