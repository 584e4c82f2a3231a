package shelf_test

import (
	"math"
	"math/big"
	"math/rand"
	"regexp"
	"slices"
	"strings"

	"bondstore/api"
	"bondstore/shelf"
)

// signs are all that may be in a name.
const signs = "ABCDEFGHIJKLMNOPQRSTUVWXYZ0123456789-"

// What the chapter says of goods, of sites and of texts.
var (
	aGood = regexp.MustCompile(`\A[A-Z0-9\-]{1,10}\z`)
	aSite = regexp.MustCompile(`\A[A-Z0-9\-]{1,4}\z`)
	aText = regexp.MustCompile(`\A([A-Z0-9\-]{1,10})@([A-Z0-9\-]{1,4})\z`)
)

func isState(state int) bool { return state == 0 || state == 1 || state == 2 }

// canBe tells whether a place can be.
func canBe(p shelf.Place) bool {
	return aGood.MatchString(p.Good) && aSite.MatchString(p.Site) && isState(p.State)
}

// idOf is what Id must answer.
func idOf(p shelf.Place) (api.Num, api.Errno) {
	if !canBe(p) {
		return api.Num{}, 1
	}
	good := p.Good + strings.Repeat("\x00", 10-len(p.Good))
	site := p.Site + strings.Repeat("\x00", 4-len(p.Site))
	return number(good + site + string([]byte{byte(p.State), 1})), 0
}

// number answers the one of sixteen bytes, the lowest first.
func number(s string) api.Num {
	b := []byte(s)
	slices.Reverse(b)
	n := new(big.Int).SetBytes(b)
	hi, lo := new(big.Int).DivMod(n, new(big.Int).Lsh(big.NewInt(1), 64), new(big.Int))
	return api.Num{Hi: hi.Uint64(), Lo: lo.Uint64()}
}

// bytesOf answers a number's sixteen bytes, the lowest first.
func bytesOf(n api.Num) string {
	all := new(big.Int).SetUint64(n.Hi)
	all.Lsh(all, 64).Or(all, new(big.Int).SetUint64(n.Lo))
	b := all.FillBytes(make([]byte, 16))
	slices.Reverse(b)
	return string(b)
}

// placeOf is what Of must answer: of all places the one whose bytes these are.
func placeOf(n api.Num) (shelf.Place, bool) {
	b := bytesOf(n)
	for good := 1; good <= 10; good++ {
		for site := 1; site <= 4; site++ {
			p := shelf.Place{Good: b[:good], Site: b[10 : 10+site], State: int(b[14])}
			if m, e := idOf(p); e == 0 && m == n {
				return p, true
			}
		}
	}
	return shelf.Place{}, false
}

// parsed is what Parse must answer.
func parsed(s string, state int) (shelf.Place, api.Errno) {
	m := aText.FindStringSubmatch(s)
	if m == nil || !isState(state) {
		return shelf.Place{}, 4
	}
	return shelf.Place{Good: m[1], Site: m[2], State: state}, 0
}

// shown is what Show must answer.
func shown(p shelf.Place) string {
	if !canBe(p) {
		return ""
	}
	return strings.Join([]string{p.Good, p.Site}, "@")
}

// states are those that there are, those beside them, and those that are one of them in their lowest bits.
func states() []int {
	list := []int{0, 1, 2, 3, 4, -1, -2, math.MaxInt, math.MinInt, math.MinInt + 1, math.MinInt + 2}
	for _, bit := range []int{7, 8, 16, 31, 32, 62} {
		list = append(list, 1<<bit, 1<<bit+1, 1<<bit+2, -1<<bit, -1<<bit+2)
	}
	return list
}

// names are good ones of all lengths and signs, and others: too long, empty, of one sign that isn't one.
func names() []string {
	list := []string{"", "BOLT", "NY", "bolt", "Bolt", "BOLt", " BOLT", "BOLT ", "BO LT", "BOLT\n", "\nBOLT", "A\x00", "\x00A", "A\x00B", "A\x00\x00\x00",
		"@", "A@", "@A", "A@B", "\u00c4", "\uff21", "\uff10", "\u2212", "\u0660", "\u212a", "A\xff", "\xc1", "\xb0"}
	for n := range 13 {
		list = append(list, strings.Repeat("A", n), strings.Repeat("Z", n), strings.Repeat("0", n), strings.Repeat("9", n), strings.Repeat("-", n), strings.Repeat("\x00", n), signs[n:2*n])
	}
	for b := range 256 {
		list = append(list, string([]byte{byte(b)}))
	}
	return append(list, strings.Repeat("A", 255), strings.Repeat("A", 256), strings.Repeat("A", 257), strings.Repeat("-", 1<<16+1))
}

// chances makes places, texts and numbers at random, alike in each run.
type chances struct{ *rand.Rand }

func newChances(seed int64) chances { return chances{rand.New(rand.NewSource(seed))} }

// name is one of 1 to n signs, of a few ones now and then, so that some are alike in part.
func (c chances) name(n int) string {
	from := signs
	if c.Intn(2) == 0 {
		from = "A0-"
	}
	b := make([]byte, 1+c.Intn(n))
	for i := range b {
		b[i] = from[c.Intn(len(from))]
	}
	return string(b)
}

// place is one that can be.
func (c chances) place() shelf.Place {
	return shelf.Place{Good: c.name(10), Site: c.name(4), State: c.Intn(3)}
}

// bent answers a text with something changed, put in, or left out.
func (c chances) bent(s string) string {
	at := c.Intn(len(s) + 1)
	sign := string([]byte{byte(c.Intn(256))})
	if c.Intn(2) == 0 {
		sign = []string{"@", "-", "A", "z", "\x00", "\x01"}[c.Intn(6)]
	}
	end := at
	if at < len(s) && c.Intn(3) > 0 {
		end++
	}
	if c.Intn(4) == 0 {
		sign = ""
	}
	return s[:at] + sign + s[end:]
}
