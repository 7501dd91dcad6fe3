package audit

import (
	"fmt"
	"testing"

	"souk/api"
	"souk/attempt"
	"souk/book"
	"souk/plan"
	"souk/state"
)

// P22.1: Party; and the example.

// parties are some, and some that there is none of.
var parties = []string{"ann", "bob", "cy", "dan", "eve", "nobody", "", "Ann", "ann ", "\xff"}

func made(t *testing.T, text string) *state.State {
	t.Helper()
	rules, _, e := plan.Parse(text)
	if e != api.OK {
		t.Fatalf("%q: %d", text, e)
	}
	s, e := state.New(rules...)
	if e != api.OK {
		t.Fatalf("%q: %d", text, e)
	}
	return s
}

// all does commands that have no error.
func all(t *testing.T, s *state.State, texts ...string) {
	t.Helper()
	for _, c := range asked(t, texts...) {
		if _, _, e := s.Do(c); e != api.OK {
			t.Fatalf("%v: %d", c, e)
		}
	}
}

func ticks(t *testing.T, s *state.State, n int) {
	t.Helper()
	for range n {
		all(t, s, "tick")
	}
}

// look is all that a state tells.
func look(s *state.State) string {
	told := fmt.Sprint(s.Now(), s.Balances(), s.Lots(), s.Payouts())
	for _, party := range parties {
		told += fmt.Sprint(s.Held(party))
	}
	return told
}

func checkParty(t *testing.T, s *state.State, party, currency string, want Statement) {
	t.Helper()
	was := look(s)
	for range 2 {
		if got := Party(s, party, currency); got != want {
			t.Fatalf("Party(%q, %q): %+v, not %+v", party, currency, got, want)
		}
	}
	if now := look(s); now != was {
		t.Fatalf("Party changed the state from\n%s to\n%s", was, now)
	}
}

// statementOf is what Party should answer, by the state's lists alone.
func statementOf(s *state.State, party, currency string) Statement {
	x := Statement{Held: s.Held(party)}
	for _, b := range s.Balances() {
		if b.Party != party || b.Currency != currency || party == "" {
			continue
		}
		switch b.Kind {
		case book.Available:
			x.Available = b.Amount
		case book.Reserve:
			x.Reserve = b.Amount
		case book.Flight:
			x.Flight = b.Amount
		case book.Paid:
			x.Paid = b.Amount
		case book.Debt:
			x.Debt = -b.Amount
		}
	}
	for _, p := range s.Payouts() {
		if p.Party == party && p.Currency == currency {
			if p.State == attempt.Paid || p.State == attempt.Back {
				x.Over++
			} else {
				x.Open++
			}
		}
	}
	return x
}

func TestPartyOfNothing(t *testing.T) {
	for _, s := range []*state.State{nil, {}, made(t, "tier 0 10%;")} {
		for _, party := range parties {
			for _, currency := range currencies {
				if got := Party(s, party, currency); got != (Statement{}) {
					t.Fatal(party, currency, got)
				}
			}
		}
	}
}

// Each kind of balance, in a currency, beside other parties and currencies.
func TestPartyOfBalances(t *testing.T) {
	s := made(t, "tier 0 10%; tax 10%; reserve 25% 20;")
	all(t, s, "sale s1 EUR - 1000 ann:1", "sale s2 EUR - 20000 bob:1 cy:1", "sale s3 USD - 4000 ann:3 dan:1")
	checkParty(t, s, "ann", "EUR", Statement{Available: 668, Reserve: 222})
	checkParty(t, s, "ann", "USD", Statement{Available: 2003, Reserve: 667})
	checkParty(t, s, "bob", "EUR", Statement{Available: 6675, Reserve: 2225})
	checkParty(t, s, "bob", "USD", Statement{})
	checkParty(t, s, "dan", "USD", Statement{Available: 668, Reserve: 222})
	checkParty(t, s, "eve", "EUR", Statement{})
	checkParty(t, s, "ann", "GBP", Statement{})
	checkParty(t, s, "ann", "eur", Statement{})
	checkParty(t, s, "", "EUR", Statement{}) // what the market has is no party's
	ticks(t, s, 8)
	checkParty(t, s, "ann", "EUR", Statement{Reserve: 222, Flight: 668, Open: 1})
	checkParty(t, s, "ann", "USD", Statement{Reserve: 667, Flight: 2003, Open: 1})
	all(t, s, "reply 1/EUR/ann accepted 1")
	checkParty(t, s, "ann", "EUR", Statement{Reserve: 222, Paid: 668, Over: 1})
	checkParty(t, s, "ann", "USD", Statement{Reserve: 667, Flight: 2003, Open: 1})
	all(t, s, "refund r1 s1 1000", "reply 1/USD/ann declined 1")
	checkParty(t, s, "ann", "EUR", Statement{Reserve: 222, Paid: 668, Debt: 890, Over: 1})
	checkParty(t, s, "ann", "USD", Statement{Available: 2003, Reserve: 667, Over: 1})
	all(t, s, "sale s4 EUR - 500 ann:1") // 445, of which 111 are held
	checkParty(t, s, "ann", "EUR", Statement{Reserve: 333, Paid: 668, Debt: 556, Over: 1})
	ticks(t, s, 12) // the first sale's reserve is released
	checkParty(t, s, "ann", "EUR", Statement{Reserve: 111, Paid: 668, Debt: 334, Over: 1})
	all(t, s, "sale s5 EUR - 1000 ann:1")
	checkParty(t, s, "ann", "EUR", Statement{Available: 334, Reserve: 333, Paid: 668, Over: 1})
}

// How many payouts are over, and aren't: those that are ready, asked or queried; paid, and back.
func TestPartyOfPayouts(t *testing.T) {
	s := made(t, "tier 0 0%;")
	for period := range 6 {
		all(t, s, fmt.Sprintf("sale s%d EUR - 1000 ann:1 bob:1 cy:1 dan:2", period), fmt.Sprintf("sale u%d USD - 700 ann:1", period))
		ticks(t, s, 8)
		for _, p := range s.Payouts() {
			if p.Over() {
				continue
			}
			answer := map[string]string{"ann": "accepted", "bob": "declined", "cy": []string{"accepted", "declined"}[period%2], "dan": "unknown"}[p.Party]
			if p.Currency == "USD" && period < 3 {
				continue
			}
			all(t, s, fmt.Sprintf("reply %s %s %d", p.Key, answer, p.Attempt))
		}
	}
	want := map[string]Statement{
		"ann": {Paid: 1200, Over: 6},
		"bob": {Available: 1200, Over: 6},
		"cy":  {Available: 200, Paid: 1000, Over: 6},
		"dan": {Available: 2000, Flight: 400, Open: 1},
	}
	for _, party := range parties {
		checkParty(t, s, party, "EUR", want[party])
		if party != "ann" {
			checkParty(t, s, party, "USD", Statement{})
		}
		checkParty(t, s, party, "GBP", Statement{})
	}
	checkParty(t, s, "ann", "USD", Statement{Paid: 4200, Over: 3})
}

// A payout isn't over in each of the states that aren't.
func TestPartyOfOpenPayouts(t *testing.T) {
	s := made(t, "tier 0 0%;")
	all(t, s, "sale s EUR - 1000 ann:1")
	states := map[string]bool{}
	for now := range 60 {
		ticks(t, s, 1)
		want := Statement{Flight: 1000, Open: 1}
		if now < 7 {
			want = Statement{Available: 1000}
		}
		checkParty(t, s, "ann", "EUR", want)
		for _, p := range s.Payouts() {
			states[p.State] = true
			all(t, s, fmt.Sprintf("reply %s unknown %d", p.Key, p.Attempt))
			states[s.Payouts()[0].State] = true
			checkParty(t, s, "ann", "EUR", want)
		}
	}
	if len(states) != 3 {
		t.Fatal(states)
	}
}

// Held, and released again; whoever it is, with balances or without, in any currency.
func TestPartyHeld(t *testing.T) {
	s := made(t, "tier 0 0%;")
	all(t, s, "sale s EUR - 1000 ann:1", "hold h1 ann", "hold h2 nobody")
	for _, currency := range currencies {
		want := Statement{Held: true}
		checkParty(t, s, "nobody", currency, want)
		if currency == "EUR" {
			want.Available = 1000
		}
		checkParty(t, s, "ann", currency, want)
		checkParty(t, s, "bob", currency, Statement{})
	}
	ticks(t, s, 8)
	checkParty(t, s, "ann", "EUR", Statement{Available: 1000, Held: true})
	all(t, s, "hold h3 ann", "free f1 nobody")
	checkParty(t, s, "ann", "EUR", Statement{Available: 1000, Held: true})
	checkParty(t, s, "nobody", "EUR", Statement{})
	all(t, s, "free f2 ann")
	checkParty(t, s, "ann", "EUR", Statement{Available: 1000})
	ticks(t, s, 8)
	all(t, s, "hold h4 ann")
	checkParty(t, s, "ann", "EUR", Statement{Flight: 1000, Open: 1, Held: true})
	checkParty(t, s, "ann", "USD", Statement{Held: true})
}

// The greatest debt's own size is no amount: the totals run over; a statement, that has no error, tells 0.
func TestGreatestDebt(t *testing.T) {
	const n = int64(api.MaxAmount)
	s := made(t, "tier 0 0%;")
	for _, name := range []string{"a", "b"} {
		for i := range 4096 {
			all(t, s, fmt.Sprintf("sale %s%d EUR - %d ann:1", name, i, n))
		}
		ticks(t, s, 8)
		if name == "a" {
			all(t, s, "reply 1/EUR/ann accepted 1")
		}
	}
	for i := range 4096 {
		all(t, s, fmt.Sprintf("refund ra%d a%d %d", i, i, n))
		if i > 0 {
			all(t, s, fmt.Sprintf("refund rb%d b%d %d", i, i, n))
		}
	}
	all(t, s, fmt.Sprintf("refund rb b0 %d", n-1))
	want := Statement{Flight: 1 << 62, Paid: 1 << 62, Debt: greatest, Open: 1, Over: 1}
	checkParty(t, s, "ann", "EUR", want)
	totals := Totals{Net: 1, Flight: 1 << 62, Paid: 1 << 62, Debt: greatest}
	checkOf(t, s.Balances(), "EUR", totals, api.OK)
	notEven(t, totals) // flight and paid together are no amount
	all(t, s, "refund r b0 1")
	if got := s.Balance(book.Debt, "ann", "EUR"); got != least {
		t.Fatal(got)
	}
	want.Debt = 0
	checkParty(t, s, "ann", "EUR", want)
	checkOf(t, s.Balances(), "EUR", Totals{}, api.ErrOver)
}

// A sale of 1000, by tier 0 10%: Net 1000, Fee 100, Available 900.
func TestExample(t *testing.T) {
	s := made(t, "tier 0 10%;")
	const sale = "sale s1 EUR - 1000 ann:1"
	all(t, s, sale)
	got, e := Of(s.Balances(), "EUR")
	if e != api.OK || got != (Totals{Net: 1000, Fee: 100, Available: 900}) || !got.Even() || got.Take() != "10.00%" {
		t.Fatal(got, e)
	}
	checkNet(t, asked(t, sale), "EUR", 1000, api.OK)
	checkParty(t, s, "ann", "EUR", Statement{Available: 900})
}

// A state's totals, and its parties' statements, at each step of a story in which all kinds of commands have something to do.
func TestStory(t *testing.T) {
	s := made(t, "tier 0 10%; tax 20%; reserve 25% 4;")
	var done []api.Command
	for i, x := range []struct {
		text string
		want Totals
		take string
	}{
		{"hold h cy", Totals{}, "-"},
		{"sale s1 EUR - 1000 ann:1", Totals{Net: 1000, Fee: 100, Tax: 20, Available: 660, Reserve: 220}, "10.00%"},
		{"refund r1 s1 500", Totals{Net: 500, Fee: 50, Tax: 10, Available: 220, Reserve: 220}, "10.00%"},
		{"chargeback c1 s1 300", Totals{Net: 200, Fee: 20, Tax: 4, Reserve: 220, Debt: 44}, "10.00%"},
		{"tick", Totals{Net: 200, Fee: 20, Tax: 4, Reserve: 220, Debt: 44}, "10.00%"},
		{"tick", Totals{Net: 200, Fee: 20, Tax: 4, Reserve: 220, Debt: 44}, "10.00%"},
		{"tick", Totals{Net: 200, Fee: 20, Tax: 4, Reserve: 220, Debt: 44}, "10.00%"},
		{"tick", Totals{Net: 200, Fee: 20, Tax: 4, Available: 176}, "10.00%"},
		{"reverse v1 c1", Totals{Net: 500, Fee: 50, Tax: 10, Available: 440}, "10.00%"},
		{"sale s2 EUR - 3 cy:1 ann:1", Totals{Net: 503, Fee: 50, Tax: 10, Available: 443}, "9.94%"},
		{"sale s3 USD - 5000 bob:1", Totals{Net: 503, Fee: 50, Tax: 10, Available: 443}, "9.94%"},
		{"tick", Totals{Net: 503, Fee: 50, Tax: 10, Available: 443}, "9.94%"},
		{"tick", Totals{Net: 503, Fee: 50, Tax: 10, Available: 443}, "9.94%"},
		{"tick", Totals{Net: 503, Fee: 50, Tax: 10, Available: 443}, "9.94%"},
		{"tick", Totals{Net: 503, Fee: 50, Tax: 10, Available: 2, Flight: 441}, "9.94%"},
		{"reply 1/EUR/ann declined 1", Totals{Net: 503, Fee: 50, Tax: 10, Available: 443}, "9.94%"},
		{"refund r2 s2 3", Totals{Net: 500, Fee: 50, Tax: 10, Available: 440}, "10.00%"},
		{"free f cy", Totals{Net: 500, Fee: 50, Tax: 10, Available: 440}, "10.00%"},
	} {
		all(t, s, x.text)
		done = append(done, asked(t, x.text)...)
		checkOf(t, s.Balances(), "EUR", x.want, api.OK)
		checkNet(t, done, "EUR", x.want.Net, api.OK)
		if !x.want.Even() || x.want.Take() != x.take {
			t.Fatal(i, x, x.want.Take())
		}
		holdParties(t, s, "EUR", "USD", "GBP")
	}
}

// holdParties holds all statements in currencies against what they should be, and together against the totals.
func holdParties(t *testing.T, s *state.State, currencies ...string) {
	t.Helper()
	payouts := s.Payouts()
	for _, currency := range currencies {
		var of Totals
		open, over := 0, 0
		for _, party := range parties {
			x := Party(s, party, currency)
			if want := statementOf(s, party, currency); x != want {
				t.Fatalf("Party(%q, %q): %+v, not %+v", party, currency, x, want)
			}
			of.Available, of.Reserve, of.Flight = of.Available+x.Available, of.Reserve+x.Reserve, of.Flight+x.Flight
			of.Paid, of.Debt = of.Paid+x.Paid, of.Debt+x.Debt
			open, over = open+x.Open, over+x.Over
		}
		want, e := Of(s.Balances(), currency)
		of.Net, of.Fee, of.Tax = want.Net, want.Fee, want.Tax
		if e != api.OK || of != want {
			t.Fatalf("together %+v, not %+v", of, want)
		}
		for _, p := range payouts {
			switch {
			case p.Currency != currency:
			case p.Over():
				over--
			default:
				open--
			}
		}
		if open != 0 || over != 0 {
			t.Fatalf("%d payouts more aren't over, %d more are, than there are: %v", open, over, payouts)
		}
	}
}
