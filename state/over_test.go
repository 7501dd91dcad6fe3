package state

import (
	"fmt"
	"math"
	"testing"

	"souk/api"
	"souk/book"
)

// sell makes so many sales of the greatest amount, of parties that are given.
func sell(t *testing.T, s *State, name string, n int, shares ...string) {
	t.Helper()
	c := api.Command{Kind: "sale", Currency: "EUR", Amount: api.MaxAmount}
	for _, party := range shares {
		c.Shares = append(c.Shares, api.Share{Party: party, Weight: 1})
	}
	for i := range n {
		c.ID = fmt.Sprint(name, i)
		if _, _, e := s.Do(c); e != api.OK {
			t.Fatal(c.ID, e)
		}
	}
}

const great = "1125899906842624" // 2^50

func TestClearingRunsOver(t *testing.T) {
	s := open(t, "tier 0 50%;")
	sell(t, s, "a", 8192, "ann")
	tell(t, s,
		step{text: "chargeback c1 a0 1", n: 0},
		step{text: "sale s1 EUR - 2 ann:1", e: api.ErrOver},
		step{text: "sale s1 EUR - 1 ann:1", n: 0, balances: "available.ann 4611686018427387905; clearing -9223372036854775808; fee 4611686018427387903"},
		step{text: "sale s2 EUR - 1 ann:1", e: api.ErrOver},
		step{text: "sale s2 EUR - " + great + " ann:1 bob:1", e: api.ErrOver},
		step{text: "reverse v1 c1", e: api.ErrOver},
		step{text: "reverse v1 c1", e: api.ErrOver},
		step{text: "sale s2 USD - 2 ann:1", n: 1},
		step{text: "refund r1 a1 2", n: 1, balances: "available.ann 4611686018427387904; available.ann.USD 1; clearing -9223372036854775806; clearing.USD -2; fee 4611686018427387902; fee.USD 1"},
		step{text: "reverse v1 c1", n: 1},
		step{text: "reverse v2 c1", e: api.ErrState},
		step{text: "sale s3 EUR - 1 ann:1", n: 0, balances: "available.ann 4611686018427387905; available.ann.USD 1; clearing -9223372036854775808; clearing.USD -2; fee 4611686018427387903; fee.USD 1"},
		step{text: "sale s4 EUR - 1 ann:1", e: api.ErrOver},
	)
}

func TestAvailableRunsOver(t *testing.T) {
	s := open(t, "tier 0 0%;")
	sell(t, s, "a", 8191, "ann")
	tell(t, s,
		step{text: "sale s1 EUR - " + great + " ann:1", e: api.ErrOver},
		step{text: "sale s1 EUR - " + great + " ann:1125899906842624 bob:1", n: 0, balances: "available.ann 9223372036854775807; available.bob 1; clearing -9223372036854775808"},
		step{text: "refund r1 s1 1", n: 1},
		step{text: "sale s2 EUR - 1 bob:1"},
		step{ticks: 7, text: "tick", n: 1, asked: "pay 1/EUR/ann 9223372036854775806 #1", balances: "available.bob 2; clearing -9223372036854775808; flight.ann 9223372036854775806"},
		step{text: "reply 1/EUR/ann accepted 1", n: 1, balances: "available.bob 2; clearing -9223372036854775808; paid.ann 9223372036854775806"},
		step{text: "sale s3 EUR - 1 bob:1", e: api.ErrOver},
	)
}

func TestFeeRunsOver(t *testing.T) {
	s := open(t, "tier 0 100%;")
	sell(t, s, "a", 8191, "ann", "bob")
	tell(t, s,
		step{text: "sale s1 EUR - " + great + " ann:1", e: api.ErrOver},
		step{text: "sale s1 EUR - 1125899906842623 ann:1", n: 1125899906842623, balances: "clearing -9223372036854775807; fee 9223372036854775807"},
		step{text: "sale s2 EUR - 1 ann:1", e: api.ErrOver},
		step{text: "sale s2 USD - 1 ann:1", n: 1},
	)
}

func TestReserveRunsOver(t *testing.T) {
	s := open(t, "tier 0 0%; reserve 100% 1000;")
	for i := range 8191 {
		c := api.Command{Kind: "sale", ID: fmt.Sprint("a", i), Currency: "EUR", Amount: api.MaxAmount, Shares: []api.Share{{Party: "ann", Weight: 1}}}
		back := api.Command{Kind: "refund", ID: fmt.Sprint("b", i), About: c.ID, Amount: api.MaxAmount}
		for _, c := range []api.Command{c, back} {
			if _, _, e := s.Do(c); e != api.OK {
				t.Fatal(c, e)
			}
		}
	}
	tell(t, s,
		step{text: "sale s1 EUR - " + great + " ann:1", e: api.ErrOver},
		step{text: "sale s1 EUR - " + great + " bob:1 ann:1", n: 0},
		step{text: "sale s2 EUR - " + great + " cy:1 ann:1", e: api.ErrOver, balances: "clearing -1125899906842624; debt.ann -9222246136947933184; reserve.ann 9222809086901354496; reserve.bob 562949953421312"},
		step{text: "sale s2 EUR - " + great + " cy:1 bob:1", n: 0},
	)
}

func TestATickRunsOver(t *testing.T) {
	s := open(t, "tier 0 0%; reserve 50% 5;")
	sell(t, s, "a", 1, "bob", "ann")
	sell(t, s, "b", 8190, "ann")
	sell(t, s, "c", 1, "ann", "bob")
	tell(t, s, step{text: "refund r1 a0 " + great, n: api.MaxAmount}, step{text: "refund r2 c0 " + great, n: api.MaxAmount})
	sell(t, s, "d", 2, "ann")
	full := balances(s)
	tell(t, s,
		step{ticks: 3, text: "tick", balances: full},
		// The last lot can't be booked: then none is.
		step{text: "tick", e: api.ErrOver, balances: full},
		step{text: "tick", e: api.ErrOver},
		step{text: "refund r3 b0 1", n: 1},
		step{text: "tick", balances: "available.ann 9223372036854775807; clearing -9223372036854775807", lots: " "},
		step{ticks: 2, text: "tick", n: 1, asked: "pay 1/EUR/ann 9223372036854775807 #1"},
	)
}

func TestAPayoutThatComesBackRunsOver(t *testing.T) {
	s := open(t, "tier 0 0%;")
	sell(t, s, "a", 4096, "ann")
	ticks(t, s, 8)
	sell(t, s, "b", 4096, "ann")
	tell(t, s,
		step{text: "reply 1/EUR/ann declined 1", e: api.ErrOver, balances: "available.ann 4611686018427387904; clearing -9223372036854775808; flight.ann 4611686018427387904"},
		step{text: "refund r1 a0 1", n: 1},
		step{text: "reply 1/EUR/ann declined 1", n: 1, balances: "available.ann 9223372036854775807; clearing -9223372036854775807"},
	)
}

func TestPaidRunsOver(t *testing.T) {
	s := open(t, "tier 0 0%;")
	sell(t, s, "a", 4096, "ann")
	ticks(t, s, 8)
	do(t, s, "reply 1/EUR/ann accepted 1")
	sell(t, s, "b", 4096, "ann")
	if l := ticks(t, s, 8); asked(t, l) != "pay 2/EUR/ann 4611686018427387904 #1" {
		t.Fatal(l)
	}
	tell(t, s,
		step{text: "reply 2/EUR/ann accepted 1", e: api.ErrOver, balances: "clearing -9223372036854775808; flight.ann 4611686018427387904; paid.ann 4611686018427387904"},
		step{text: "reply 2/EUR/ann unknown 1", n: 0},
		step{text: "reply 2/EUR/ann declined 1", n: 1, balances: "available.ann 4611686018427387904; clearing -9223372036854775808; paid.ann 4611686018427387904"},
		step{text: "refund r1 a0 1", n: 1},
		step{ticks: 7, text: "tick", n: 1, asked: "pay 3/EUR/ann 4611686018427387903 #1"},
		step{text: "reply 3/EUR/ann accepted 1", n: 1, balances: "clearing -9223372036854775807; paid.ann 9223372036854775807"},
	)
}

func TestDebtRunsOver(t *testing.T) {
	s := open(t, "tier 0 0%; reserve 50% 1000;")
	sell(t, s, "a", 2, "ann")
	ticks(t, s, 8)
	do(t, s, "reply 1/EUR/ann accepted 1", "refund r1 a0 "+great, "refund r2 a1 "+great)
	back := api.Command{Kind: "refund", Amount: api.MaxAmount}
	for i := range 16380 {
		name := fmt.Sprint("b", i, "n")
		sell(t, s, name, 1, "ann")
		back.ID, back.About = fmt.Sprint("c", i), name+"0"
		if _, _, e := s.Do(back); e != api.OK {
			t.Fatal(i, e)
		}
	}
	const least = "debt.ann -9223372036854775808; paid.ann 1125899906842624; reserve.ann 9222246136947933184"
	if got := balances(s); got != least {
		t.Fatal(got)
	}
	tell(t, s,
		// The least debt there is takes a credit as any other one does.
		step{text: "sale s1 EUR - 3 ann:1 bob:1", balances: "available.bob 1; clearing -3; debt.ann -9223372036854775807; paid.ann 1125899906842624; reserve.ann 9222246136947933185"},
		step{text: "refund r3 s1 3", e: api.ErrOver},
		step{text: "chargeback x s1 3", e: api.ErrOver},
		step{text: "refund r3 s1 2", n: 2, balances: "clearing -1; debt.ann -9223372036854775808; paid.ann 1125899906842624; reserve.ann 9222246136947933185"},
		step{text: "chargeback x s1 1", e: api.ErrOver},
	)
}

// opened is a state in which a party has so much on an account of a kind, and others owe that.
func opened(t *testing.T, text, kind, party string, amount int64) *State {
	t.Helper()
	s := open(t, text)
	e := s.book.Post(line(kind, party, "EUR", amount), line(book.Debt, "zed", "EUR", -amount))
	if e != api.OK {
		t.Fatal(e)
	}
	return s
}

func TestWhereverInASaleItRunsOver(t *testing.T) {
	const text = "tier 0 10%; tax 20%; reserve 25% 3;"
	sale := "sale s1 EUR - 8000 a0:1 a1:1 a2:1 a3:1 a4:1 a5:1 a6:1 a7:1"
	for _, kind := range []string{book.Fee, book.Tax} {
		s := opened(t, text, kind, "", math.MaxInt64-100)
		tell(t, s, step{text: sale, e: api.ErrOver})
		wantNoSale(t, s)
	}
	for i := range 8 {
		for _, kind := range []string{book.Available, book.Reserve} {
			s := opened(t, text, kind, fmt.Sprint("a", i), math.MaxInt64-100)
			tell(t, s, step{text: sale, e: api.ErrOver})
			wantNoSale(t, s)
			tell(t, s, step{text: "sale s1 EUR - 8 a0:1 a1:1 a2:1 a3:1 a4:1 a5:1 a6:1 a7:1", n: 1})
		}
	}
}

// wantNoSale holds that there is no s1, of which nothing is held back.
func wantNoSale(t *testing.T, s *State) {
	t.Helper()
	if l, ok := s.Left("s1"); l != nil || ok || len(s.Lots()) > 0 {
		t.Fatal(l, ok, s.Lots())
	}
	tell(t, s, step{text: "refund r1 s1 1", e: api.ErrNone})
}

func TestWhereverInARefundItRunsOver(t *testing.T) {
	for i := range 8 {
		for _, kind := range []string{"refund", "chargeback"} {
			s := open(t, "tier 0 10%;")
			do(t, s, "sale s1 EUR - 8000 a0:1 a1:1 a2:1 a3:1 a4:1 a5:1 a6:1 a7:1")
			party := fmt.Sprint("a", i)
			// It has nothing any more, and as much debt as there may be but 100.
			e := s.book.Post(line(book.Available, "zed", "EUR", math.MaxInt64), line(book.Debt, party, "EUR", 100+math.MinInt64), line(book.Available, party, "EUR", -900), line(book.Available, "zod", "EUR", 801))
			if e != api.OK {
				t.Fatal(e)
			}
			tell(t, s,
				step{text: kind + " c1 s1 1000", e: api.ErrOver},
				step{text: "reverse v1 c1", e: api.ErrNone},
			)
			wantLeft(t, s, "s1", 800, 0, 900, 900, 900, 900, 900, 900, 900, 900)
			tell(t, s, step{text: kind + " c1 s1 880", n: 792})
			if got := s.Balance(book.Debt, party, "EUR"); got != 1+math.MinInt64 {
				t.Fatal(got)
			}
		}
	}
}

func TestWhereverInAReverseItRunsOver(t *testing.T) {
	for i := range 8 {
		s := open(t, "tier 0 10%;")
		do(t, s, "sale s1 EUR - 8000 a0:1 a1:1 a2:1 a3:1 a4:1 a5:1 a6:1 a7:1", "chargeback c1 s1 8000")
		party := fmt.Sprint("a", i)
		give := func(amount int64) {
			e := s.book.Post(line(book.Available, party, "EUR", amount), line(book.Debt, "zed", "EUR", -amount))
			if e != api.OK {
				t.Fatal(e)
			}
		}
		give(math.MaxInt64 - 899)
		tell(t, s, step{text: "reverse v1 c1", e: api.ErrOver})
		wantLeft(t, s, "s1", 0, 0, 0, 0, 0, 0, 0, 0, 0, 0)
		tell(t, s, step{text: "reverse v1 c1", e: api.ErrOver})
		give(-1)
		tell(t, s, step{text: "reverse v1 c1", n: 8000}, step{text: "reverse v2 c1", e: api.ErrState})
		wantLeft(t, s, "s1", 800, 0, 900, 900, 900, 900, 900, 900, 900, 900)
	}
}

func TestWhereverInATickItRunsOver(t *testing.T) {
	for i := range 8 {
		s := open(t, "tier 0 0%; reserve 50% 8;")
		do(t, s, "sale s1 EUR - 16000 a0:1 a1:1 a2:1 a3:1 a4:1 a5:1 a6:1 a7:1")
		party := fmt.Sprint("a", i)
		// It is held, so that what it has is there still behind the cut-off.
		do(t, s, "hold h1 "+party)
		ticks(t, s, 7)
		give := func(amount int64) {
			e := s.book.Post(line(book.Available, party, "EUR", amount), line(book.Debt, "zed", "EUR", -amount))
			if e != api.OK {
				t.Fatal(e)
			}
		}
		give(math.MaxInt64 - 1000 - 999)
		tell(t, s, step{text: "tick", e: api.ErrOver}, step{text: "tick", e: api.ErrOver})
		if s.Now() != 7 || len(s.Lots()) != 8 || len(s.Payouts()) != 0 {
			t.Fatal(told(s))
		}
		give(-1)
		r, l := do(t, s, "tick")
		if r.N != 7 || len(l) != 7 || len(s.Lots()) != 0 || s.Balance(book.Available, party, "EUR") != math.MaxInt64 {
			t.Fatal(r, l, told(s))
		}
	}
}

// What is booked can't be more than there is by what the chapter says; if it is, nothing is changed either.
func TestMoreThanThereIs(t *testing.T) {
	s := inFlight(t)
	do(t, s, "sale s2 EUR - 100 ann:1")
	if e := s.book.Post(line(book.Flight, "ann", "EUR", -1), line(book.Paid, "ann", "EUR", 1), line(book.Clearing, "", "EUR", 850), line(book.Debt, "zed", "EUR", -850)); e != api.OK {
		t.Fatal(e)
	}
	tell(t, s,
		step{text: "reply 1/EUR/ann accepted 1", e: api.ErrMore},
		step{text: "reply 1/EUR/ann declined 1", e: api.ErrMore},
		step{text: "refund r1 s1 51", e: api.ErrMore},
		step{text: "chargeback c1 s1 51", e: api.ErrMore},
		step{text: "refund r1 s1 50", n: 50},
	)
}
