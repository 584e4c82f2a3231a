package store_test

import (
	"testing"

	"bondstore/api"
	"bondstore/wide"
)

// pairOf is a store of two accounts, 1 and 2, without anything.
func pairOf(t *testing.T) *both {
	t.Helper()
	b := newBoth(t, 600)
	b.mustAll(opens(someone(1, 0), someone(2, 0)))
	return b
}

// moved1to2 asks whether so much was moved from 1 to 2, and so much waits to be.
func (b *both) moved1to2(done, waits uint64) {
	b.t.Helper()
	l := b.s.Books().Accounts()
	want := []api.Account{
		{Id: wide.Of(1), DebitsPosted: wide.Of(done), DebitsPending: wide.Of(waits), Ledger: 1, Code: 1, Stamp: 1},
		{Id: wide.Of(2), CreditsPosted: wide.Of(done), CreditsPending: wide.Of(waits), Ledger: 1, Code: 1, Stamp: 2},
	}
	if l[0] != want[0] || l[1] != want[1] {
		b.t.Errorf("%+v, not %+v", l, want)
	}
}

// TestP24_2TenExamples are those of the whole.
func TestP24_2TenExamples(t *testing.T) {
	examples := []func(*both){
		func(b *both) {
			b.mustAll(moves(pay(10, 1, 2, 5, 0)))
			b.moved1to2(5, 0)
		},
		func(b *both) {
			b.mustAll(moves(wait(10, 1, 2, 10, 0, 0)))
			b.moved1to2(0, 10)
			b.mustAll(moves(end(11, 10, 4, post)))
			b.moved1to2(4, 0)
		},
		func(b *both) {
			b.must(moves(pay(10, 1, 2, 5, linked), pay(11, 1, 2, 0, 0)), 1, 18)
			b.moved1to2(0, 0)
		},
		func(b *both) {
			q, was := moves(pay(10, 1, 2, 5, 0), pay(11, 1, 2, 6, 0), pay(12, 1, 2, 7, 0)), b.l
			b.s.Arm(3)
			b.refused(q, 8)
			b.power(3, -1, 0, was, was.behind(q))
			b.moved1to2(0, 0)
			b.s.Arm(5)
			b.refused(q, 8)
			b.power(15, -1, 0, was, was.behind(q))
			b.moved1to2(18, 0)
		},
		func(b *both) {
			q, was := moves(pay(10, 1, 2, 5, 0)), b.l
			b.s.Arm(3)
			b.refused(q, 8)
			b.power(3, 1, 64, was, was.behind(q))
			b.moved1to2(0, 0)
		},
		func(b *both) {
			q, was := moves(pay(10, 1, 2, 5, 0)), b.l
			b.s.Arm(3)
			b.refused(q, 8)
			b.power(3, -1, 0, was, was.behind(q))
			b.moved1to2(5, 0)
		},
		func(b *both) {
			for now := range 118 {
				b.mustAll(tick(now))
			}
			if b.s.Turn() != 0 {
				b.t.Errorf("turn %d", b.s.Turn())
			}
			b.mustAll(tick(118))
			if b.s.Turn() != 1 {
				b.t.Errorf("turn %d", b.s.Turn())
			}
		},
		func(b *both) {
			q := moves(pay(10, 1, 2, 5, 0))
			if p := b.bytes(bytesOf(q) + "\x00"); p.Err != 4 {
				b.t.Errorf("%+v", p)
			}
			b.moved1to2(0, 0)
		},
		func(b *both) {
			x := pay(10, 1, 2, 0, 0)
			x.Amount = wide.Most
			b.must(moves(x, pay(11, 1, 2, 1, 0)), 0, 32)
		},
		func(b *both) {
			b.mustAll(moves(wait(10, 1, 2, 5, 5, 0)), tick(4))
			b.moved1to2(0, 5)
			b.mustAll(tick(5))
			b.moved1to2(0, 0)
		},
	}
	for i, try := range examples {
		b := pairOf(t)
		try(b)
		was := b.s.Seq()
		b.powerAnyhow()
		if b.s.Seq() != was {
			t.Errorf("the example %d: %d done, not %d", i+1, b.s.Seq(), was)
		}
	}
}
