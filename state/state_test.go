package state

import (
	"fmt"
	"reflect"
	"slices"
	"strings"
	"testing"

	"souk/api"
	"souk/attempt"
	"souk/book"
	"souk/command"
	"souk/lots"
	"souk/plan"
)

// The calls, as the chapter lists them.
var (
	_ func(...api.Rule) (*State, api.Errno)                       = New
	_ func(*State) *State                                         = (*State).Clone
	_ func(*State, api.Command) (Reply, []api.Request, api.Errno) = (*State).Do
	_ func(*State) int64                                          = (*State).Now
	_ func(*State) []book.Line                                    = (*State).Balances
	_ func(*State, string, string, string) int64                  = (*State).Balance
	_ func(*State) []lots.Lot                                     = (*State).Lots
	_ func(*State) []attempt.Payout                               = (*State).Payouts
	_ func(*State, string) bool                                   = (*State).Held
	_ func(*State, string) ([]int64, bool)                        = (*State).Left
	_ func(*State, string) (Reply, bool)                          = (*State).Told
)

// names are those of all events and parties of which the tests speak, and some more.
func names() []string {
	l := []string{"", "-", "ann", "bob", "cy", "dan", "eve", "fay", "gus", "hal", "ann/bob", "x"}
	for _, kind := range []string{"s", "r", "c", "v", "h", "f"} {
		for i := range 10 {
			l = append(l, fmt.Sprint(kind, i))
		}
	}
	return l
}

// told is all that a state tells, as a text.
func told(s *State) string {
	b := &strings.Builder{}
	fmt.Fprintln(b, s.Now(), s.Balances(), s.Lots(), s.Payouts())
	for _, n := range names() {
		left, sold := s.Left(n)
		r, event := s.Told(n)
		if held := s.Held(n); sold || event || held {
			fmt.Fprintln(b, n, left, sold, r, event, held)
		}
	}
	return b.String()
}

// balances are a state's, as a text: kind.party.currency, without EUR.
func balances(s *State) string {
	var l []string
	for _, x := range s.Balances() {
		at := x.Kind
		if x.Party != "" {
			at += "." + x.Party
		}
		if x.Currency != "EUR" {
			at += "." + x.Currency
		}
		l = append(l, fmt.Sprint(at, " ", x.Amount))
	}
	return strings.Join(l, "; ")
}

// asked is requests, as a text: kind, key, amount, # attempt.
func asked(t *testing.T, l []api.Request) string {
	t.Helper()
	var texts []string
	for _, r := range l {
		parts := strings.SplitN(r.Key, "/", 3)
		if len(parts) != 3 || parts[1] != r.Currency || parts[2] != r.Party {
			t.Fatalf("a request of the key %q is of %q and %q", r.Key, r.Party, r.Currency)
		}
		texts = append(texts, fmt.Sprint(r.Kind, " ", r.Key, " ", r.Amount, " #", r.Attempt))
	}
	return strings.Join(texts, ", ")
}

// held is lots, as a text: party, amount, @ due; with the currency, if it isn't EUR.
func held(l []lots.Lot) string {
	var texts []string
	for _, x := range l {
		text := fmt.Sprint(x.Party, " ", x.Amount, " @", x.Due)
		if x.Currency != "EUR" {
			text += " " + x.Currency
		}
		texts = append(texts, text)
	}
	return strings.Join(texts, ", ")
}

// states are payouts, as a text: key, amount, state, next, tries, attempt.
func states(l []attempt.Payout) string {
	var texts []string
	for _, p := range l {
		texts = append(texts, fmt.Sprint(p.Key, " ", p.Amount, " ", p.State, " @", p.Next, " ", p.Tries, " #", p.Attempt))
	}
	return strings.Join(texts, ", ")
}

// open is a state of a plan's text.
func open(t *testing.T, text string) *State {
	t.Helper()
	rules, at, e := plan.Parse(text)
	if e != api.OK {
		t.Fatalf("the plan %q: %v at %d", text, e, at)
	}
	s, e := New(rules...)
	if e != api.OK || s == nil {
		t.Fatalf("New of %q: %v, %v", text, s, e)
	}
	return s
}

// parsed is a command of a text.
func parsed(t *testing.T, text string) api.Command {
	t.Helper()
	c, e := command.Parse(text)
	if e != api.OK {
		t.Fatalf("the command %q: %v", text, e)
	}
	return c
}

// do does what must be done without an error.
func do(t *testing.T, s *State, texts ...string) (r Reply, l []api.Request) {
	t.Helper()
	for _, text := range texts {
		var e api.Errno
		if r, l, e = s.Do(parsed(t, text)); e != api.OK {
			t.Fatalf("%s: %v", text, e)
		}
	}
	return r, l
}

// ticks does so many ticks; what the last one asks.
func ticks(t *testing.T, s *State, n int) (l []api.Request) {
	t.Helper()
	for range n {
		_, l = do(t, s, "tick")
	}
	return l
}

// fails does what has an error, and holds that nothing is answered beside it, nor changed.
func fails(t *testing.T, s *State, c api.Command, want api.Errno) {
	t.Helper()
	before, twin, given := told(s), s.Clone(), fmt.Sprintf("%#v", c)
	r, l, e := s.Do(c)
	switch {
	case e != want:
		t.Fatalf("%+v: %v, want %v", c, e, want)
	case r != Reply{} || l != nil:
		t.Fatalf("%+v: %v beside %v and %v", c, e, r, l)
	case told(s) != before:
		t.Fatalf("%+v: behind %v\n%sahead\n%s", c, e, told(s), before)
	case !reflect.DeepEqual(s, twin):
		t.Fatalf("%+v: behind %v\n%+v\nahead\n%+v", c, e, s, twin)
	case fmt.Sprintf("%#v", c) != given:
		t.Fatalf("Do changed %s to %#v", given, c)
	}
}

// step is a command of a story, what it is told, and, if they are written, what is asked, the balances, and the lots. So many ticks are done ahead of it.
type step struct {
	ticks    int
	text     string
	n        int64
	e        api.Errno
	asked    string
	balances string
	lots     string
}

// tell does all steps of a story.
func tell(t *testing.T, s *State, l ...step) {
	t.Helper()
	for i, x := range l {
		ticks(t, s, x.ticks)
		c := parsed(t, x.text)
		if x.e != api.OK {
			fails(t, s, c, x.e)
		} else {
			r, requests, e := s.Do(c)
			if (r != Reply{c.Kind, x.n}) || e != api.OK {
				t.Fatalf("%d: %s: %v and %v, want %d", i, x.text, r, e, x.n)
			}
			if got := asked(t, requests); got != x.asked {
				t.Fatalf("%d: %s asks %q, want %q", i, x.text, got, x.asked)
			}
		}
		if got := balances(s); x.balances != "" && got != x.balances {
			t.Fatalf("%d: %s: the balances are\n%s, want\n%s", i, x.text, got, x.balances)
		}
		if got := held(s.Lots()); x.lots != "" && got != strings.TrimSpace(x.lots) {
			t.Fatalf("%d: %s: the lots are %q, want %q", i, x.text, got, x.lots)
		}
	}
}

// wantLeft holds what is left of a sale.
func wantLeft(t *testing.T, s *State, id string, want ...int64) {
	t.Helper()
	if l, ok := s.Left(id); !ok || !slices.Equal(l, want) {
		t.Fatalf("left of %s: %v %v, want %v", id, l, ok, want)
	}
}

func TestTheExample(t *testing.T) {
	s := open(t, "tier 0 10%;")
	tell(t, s, step{text: "sale s1 EUR - 1000 ann:1", n: 100, balances: "available.ann 900; clearing -1000; fee 100"})
	wantLeft(t, s, "s1", 100, 0, 900)
}

func TestMostTime(t *testing.T) {
	if MostTime != 1099511627776 {
		t.Fatal(int64(MostTime))
	}
}

func TestNew(t *testing.T) {
	for _, text := range []string{
		"tier 0 10%;",
		"tier 0 0%;",
		"tier 0 100%;",
		"tier 0 10%; tier 5 1%;",
		"tax 20%; reserve 25% 1000; category books 2%; cap 50; minimum 50; tier 0 10%;",
	} {
		s := open(t, text)
		want := "0 [] [] []\n"
		if got := told(s); got != want {
			t.Fatalf("New of %q tells\n%swant\n%s", text, got, want)
		}
		if s.Balances() != nil && len(s.Balances()) > 0 || len(s.Lots()) > 0 || len(s.Payouts()) > 0 {
			t.Fatalf("New of %q has something", text)
		}
	}
}

func TestNewOfWhatIsNotSound(t *testing.T) {
	tier := api.Rule{Kind: "tier", Rate: 1000}
	for _, l := range [][]api.Rule{
		nil,
		{},
		{{}},
		{{Kind: "tax", Rate: 5}},
		{{Kind: "tier", N: 5}},
		{tier, tier},
		{tier, {Kind: "tier", N: 5}, {Kind: "tier", N: 5}},
		{tier, {Kind: "tire"}},
		{tier, {Kind: ""}},
		{tier, {Kind: "cap", N: -1}},
		{tier, {Kind: "cap", N: api.MaxAmount + 1}},
		{tier, {Kind: "tax", Rate: -1}},
		{tier, {Kind: "tax", Rate: api.Whole + 1}},
		{tier, {Kind: "reserve", N: 1001}},
		{tier, {Kind: "tax"}, {Kind: "tax"}},
		{tier, {Kind: "category", Name: "books"}, {Kind: "category", Name: "books"}},
		{tier, {Kind: "cap", N: 4}, {Kind: "minimum", N: 5}},
	} {
		if s, e := New(l...); s != nil || e != api.ErrPlan {
			t.Fatalf("New(%v): %v, %v", l, s, e)
		}
	}
}

func TestThePlanIsNotKept(t *testing.T) {
	rules, _, _ := plan.Parse("tier 0 10%; tax 20%;")
	given := slices.Clone(rules)
	s, e := New(rules...)
	if e != api.OK || !slices.Equal(rules, given) {
		t.Fatal(e, rules)
	}
	rules[0].Rate, rules[1].Rate = 0, 0
	tell(t, s, step{text: "sale s1 EUR - 1000 ann:1", n: 120, balances: "available.ann 880; clearing -1000; fee 100; tax 20"})
	// Nor is what lies behind a list's length.
	longer := append(slices.Clone(given), api.Rule{Kind: "tier", N: 1, Rate: 5000})
	s, e = New(longer[:2]...)
	if e != api.OK {
		t.Fatal(e)
	}
	tell(t, s, step{text: "sale s1 EUR - 1000 ann:1", n: 120})
}

func TestSales(t *testing.T) {
	for _, c := range []struct {
		plan, text     string
		n              int64
		balances, lots string
		left           []int64
	}{
		{"tier 0 10%; tax 20%; reserve 25% 3;", "sale s1 EUR - 1000 ann:3 bob:1", 120,
			"available.ann 495; available.bob 165; clearing -1000; fee 100; reserve.ann 165; reserve.bob 55; tax 20", "ann 165 @3, bob 55 @3", []int64{100, 20, 660, 220}},
		{"tier 0 10%; tax 20%; reserve 25% 3;", "sale s1 USD - 1000 bob:1 ann:3", 120,
			"available.ann.USD 495; available.bob.USD 165; clearing.USD -1000; fee.USD 100; reserve.ann.USD 165; reserve.bob.USD 55; tax.USD 20", "bob 55 @3 USD, ann 165 @3 USD", []int64{100, 20, 220, 660}},
		{"tier 0 10%; category books 2%;", "sale s1 EUR books 1000 ann:1", 20, "available.ann 980; clearing -1000; fee 20", " ", []int64{20, 0, 980}},
		{"tier 0 10%; category books 2%;", "sale s1 EUR book 1000 ann:1", 100, "available.ann 900; clearing -1000; fee 100", " ", []int64{100, 0, 900}},
		{"tier 0 10%; tier 1000 5%;", "sale s1 EUR - 999 ann:1", 100, "available.ann 899; clearing -999; fee 100", " ", []int64{100, 0, 899}},
		{"tier 0 10%; tier 1000 5%;", "sale s1 EUR - 1000 ann:1", 50, "available.ann 950; clearing -1000; fee 50", " ", []int64{50, 0, 950}},
		{"tier 0 10%; cap 50; tax 20%;", "sale s1 EUR - 1000 ann:1", 60, "available.ann 940; clearing -1000; fee 50; tax 10", " ", []int64{50, 10, 940}},
		{"tier 0 100%;", "sale s1 EUR - 1000 ann:1 bob:1", 1000, "clearing -1000; fee 1000", " ", []int64{1000, 0, 0, 0}},
		{"tier 0 0%;", "sale s1 EUR - 1000 ann:1", 0, "available.ann 1000; clearing -1000", " ", []int64{0, 0, 1000}},
		{"tier 0 0%; minimum 30; cap 50; tax 50%;", "sale s1 EUR - 20 ann:1", 20, "clearing -20; fee 20", " ", []int64{20, 0, 0}},
		{"tier 0 0%; minimum 30; cap 50; tax 50%;", "sale s1 EUR - 40 ann:1", 40, "clearing -40; fee 30; tax 10", " ", []int64{30, 10, 0}},
		{"tier 0 0%; reserve 100% 5;", "sale s1 EUR - 1000 ann:1", 0, "clearing -1000; reserve.ann 1000", "ann 1000 @5", []int64{0, 0, 1000}},
		{"tier 0 0%; reserve 10% 0;", "sale s1 EUR - 1000 ann:1", 0, "available.ann 900; clearing -1000; reserve.ann 100", "ann 100 @0", []int64{0, 0, 1000}},
		{"tier 0 0%; reserve 10% 1000;", "sale s1 EUR - 19 ann:1", 0, "available.ann 18; clearing -19; reserve.ann 1", "ann 1 @1000", []int64{0, 0, 19}},
		{"tier 0 0%; reserve 10% 4;", "sale s1 EUR - 9 ann:1", 0, "available.ann 9; clearing -9", " ", []int64{0, 0, 9}},
		{"tier 0 0%; reserve 50% 4;", "sale s1 EUR - 4 ann:1 bob:3", 0, "available.ann 1; available.bob 2; clearing -4; reserve.bob 1", "bob 1 @4", []int64{0, 0, 1, 3}},
		{"tier 0 0%;", "sale s1 EUR - 1 ann:1 bob:1 cy:1", 0, "available.ann 1; clearing -1", " ", []int64{0, 0, 1, 0, 0}},
		{"tier 0 0%; reserve 100% 2;", "sale s1 EUR - 1 ann:1 bob:1", 0, "clearing -1; reserve.ann 1", "ann 1 @2", []int64{0, 0, 1, 0}},
		{"tier 0 10%;", "sale s1 EUR - 100 ann:1 bob:1 cy:1 dan:1 eve:1 fay:1 gus:1 hal:1", 10,
			"available.ann 12; available.bob 12; available.cy 11; available.dan 11; available.eve 11; available.fay 11; available.gus 11; available.hal 11; clearing -100; fee 10", " ", []int64{10, 0, 12, 12, 11, 11, 11, 11, 11, 11}},
		{"tier 0 50%; tax 50%; reserve 50% 9;", "sale s1 EUR - 1125899906842624 ann:1", 844424930131968,
			"available.ann 140737488355328; clearing -1125899906842624; fee 562949953421312; reserve.ann 140737488355328; tax 281474976710656", "ann 140737488355328 @9", []int64{562949953421312, 281474976710656, 281474976710656}},
	} {
		s := open(t, c.plan)
		tell(t, s, step{text: c.text, n: c.n, balances: c.balances, lots: c.lots})
		wantLeft(t, s, "s1", c.left...)
	}
}

func TestSalesTogether(t *testing.T) {
	s := open(t, "tier 0 10%; tax 20%; reserve 25% 3;")
	tell(t, s,
		step{text: "sale s1 EUR - 1000 ann:3 bob:1", n: 120},
		step{text: "sale s2 USD - 100 ann:1", n: 12},
		step{ticks: 2, text: "sale s3 EUR - 100 bob:1", n: 12,
			balances: "available.ann 495; available.ann.USD 66; available.bob 231; clearing -1100; clearing.USD -100; fee 110; fee.USD 10; reserve.ann 165; reserve.ann.USD 22; reserve.bob 77; tax 22; tax.USD 2",
			lots:     "ann 165 @3, bob 55 @3, ann 22 @3 USD, bob 22 @5"},
	)
	wantLeft(t, s, "s1", 100, 20, 660, 220)
	wantLeft(t, s, "s2", 10, 2, 88)
	wantLeft(t, s, "s3", 10, 2, 88)
	for _, id := range []string{"", "s4", "S1", "s", "ann", "EUR"} {
		if l, ok := s.Left(id); l != nil || ok {
			t.Fatalf("left of %q: %v, %v", id, l, ok)
		}
	}
}

func TestRefunds(t *testing.T) {
	s := open(t, "tier 0 10%; tax 20%; reserve 25% 3;")
	tell(t, s,
		step{text: "refund r1 s1 1", e: api.ErrNone},
		step{text: "sale s1 EUR - 1000 ann:3 bob:1", n: 120},
		step{text: "refund r1 s2 1", e: api.ErrNone},
		step{text: "refund r1 S1 1", e: api.ErrNone},
		step{text: "refund r1 s1 1001", e: api.ErrMore},
		step{text: "refund r1 s1 1125899906842624", e: api.ErrMore},
		step{text: "refund r1 s1 100", n: 88, balances: "available.ann 429; available.bob 143; clearing -900; fee 90; reserve.ann 165; reserve.bob 55; tax 18", lots: "ann 165 @3, bob 55 @3"},
		step{text: "refund r2 r1 1", e: api.ErrNone},
		step{text: "refund r2 ann 1", e: api.ErrNone},
		step{text: "refund r2 s1 1", n: 1, balances: "available.ann 428; available.bob 143; clearing -899; fee 90; reserve.ann 165; reserve.bob 55; tax 18"},
		step{text: "refund r3 s1 900", e: api.ErrMore},
		step{text: "refund r3 s1 899", n: 791, balances: "debt.ann -165; debt.bob -55; reserve.ann 165; reserve.bob 55"},
		step{text: "refund r4 s1 1", e: api.ErrMore},
	)
	wantLeft(t, s, "s1", 0, 0, 0, 0)
	// What is held back is taken by the debt, once it is due.
	tell(t, s, step{ticks: 2, text: "tick", lots: " "})
	if got := balances(s); got != "" {
		t.Fatal(got)
	}
	fails(t, s, api.Command{Kind: "refund", ID: "r4", About: "s1"}, api.ErrArg)
	fails(t, s, api.Command{Kind: "refund", ID: "r4", About: "s1", Amount: -1}, api.ErrArg)
}

func TestRefundsOfPartsThatAreNothing(t *testing.T) {
	s := open(t, "tier 0 100%;")
	tell(t, s,
		step{text: "sale s1 EUR - 10 ann:1", n: 10},
		step{text: "refund r1 s1 4", n: 0, balances: "clearing -6; fee 6"},
		step{text: "refund r2 s1 7", e: api.ErrMore},
		step{text: "refund r2 s1 6", n: 0},
	)
	if got := balances(s); got != "" {
		t.Fatal(got)
	}
	wantLeft(t, s, "s1", 0, 0, 0)
}

func TestRefundsPieceByPiece(t *testing.T) {
	s := open(t, "tier 0 10%; tax 50%;")
	do(t, s, "sale s1 EUR - 40 ann:2 bob:1 cy:1") // 4, 2, and 17, 9, 8 of 34
	wantLeft(t, s, "s1", 4, 2, 17, 9, 8)
	debited := int64(0)
	for i := range 40 {
		r, _, e := s.Do(api.Command{Kind: "refund", ID: fmt.Sprint("piece", i), About: "s1", Amount: 1})
		if e != api.OK {
			t.Fatal(i, e)
		}
		debited += r.N
		left, _ := s.Left("s1")
		if sum := left[0] + left[1] + left[2] + left[3] + left[4]; sum != int64(39-i) || s.Balance("clearing", "", "EUR") != -sum || s.Balance("fee", "", "EUR") != left[0] || s.Balance("tax", "", "EUR") != left[1] ||
			s.Balance("available", "ann", "EUR") != left[2] || s.Balance("available", "bob", "EUR") != left[3] || s.Balance("available", "cy", "EUR") != left[4] {
			t.Fatal(i, left, balances(s))
		}
	}
	if debited != 34 || balances(s) != "" {
		t.Fatal(debited, balances(s))
	}
	tell(t, s, step{text: "refund r1 s1 1", e: api.ErrMore})
}

func TestRefundsOfOneOfSeveralSales(t *testing.T) {
	s := open(t, "tier 0 10%;")
	do(t, s, "sale s1 EUR - 100 ann:1", "sale s2 USD - 100 ann:1", "sale s3 EUR - 100 bob:1", "refund r1 s2 50")
	wantLeft(t, s, "s1", 10, 0, 90)
	wantLeft(t, s, "s2", 5, 0, 45)
	wantLeft(t, s, "s3", 10, 0, 90)
	if got := balances(s); got != "available.ann 90; available.ann.USD 45; available.bob 90; clearing -200; clearing.USD -50; fee 20; fee.USD 5" {
		t.Fatal(got)
	}
}

func TestDebtRisesAndFalls(t *testing.T) {
	s := open(t, "tier 0 0%; reserve 50% 20;")
	tell(t, s,
		step{text: "sale s1 EUR - 400 ann:1 bob:1", balances: "available.ann 100; available.bob 100; clearing -400; reserve.ann 100; reserve.bob 100"},
		step{ticks: 7, text: "tick", n: 2, asked: "pay 1/EUR/ann 100 #1, pay 1/EUR/bob 100 #1"},
		step{text: "reply 1/EUR/ann accepted 1", n: 1},
		step{text: "sale s2 EUR - 60 ann:1", balances: "available.ann 30; clearing -460; flight.bob 100; paid.ann 100; reserve.ann 130; reserve.bob 100"},
		// Each one's part is taken of what it has, and what it hasn't is its debt.
		step{text: "refund r1 s1 50", n: 50, balances: "available.ann 5; clearing -410; debt.bob -25; flight.bob 100; paid.ann 100; reserve.ann 130; reserve.bob 100"},
		step{text: "refund r2 s1 10", n: 10, balances: "clearing -400; debt.bob -30; flight.bob 100; paid.ann 100; reserve.ann 130; reserve.bob 100"},
		step{text: "refund r3 s1 100", n: 100, balances: "clearing -300; debt.ann -50; debt.bob -80; flight.bob 100; paid.ann 100; reserve.ann 130; reserve.bob 100"},
		// A sale's part is taken by the debt, as far as there is some.
		step{text: "sale s3 EUR - 98 ann:1", balances: "clearing -398; debt.ann -1; debt.bob -80; flight.bob 100; paid.ann 100; reserve.ann 179; reserve.bob 100"},
		step{text: "sale s4 EUR - 2 ann:1", balances: "clearing -400; debt.bob -80; flight.bob 100; paid.ann 100; reserve.ann 180; reserve.bob 100"},
		step{text: "sale s5 EUR - 2 ann:1", balances: "available.ann 1; clearing -402; debt.bob -80; flight.bob 100; paid.ann 100; reserve.ann 181; reserve.bob 100"},
		// In another currency there is no debt.
		step{text: "sale s6 USD - 2 bob:1", balances: "available.ann 1; available.bob.USD 1; clearing -402; clearing.USD -2; debt.bob -80; flight.bob 100; paid.ann 100; reserve.ann 181; reserve.bob 100; reserve.bob.USD 1"},
		// So is a payout's that comes back.
		step{text: "reply 1/EUR/bob declined 1", n: 1, balances: "available.ann 1; available.bob 20; available.bob.USD 1; clearing -402; clearing.USD -2; paid.ann 100; reserve.ann 181; reserve.bob 100; reserve.bob.USD 1"},
		step{text: "refund r4 s1 240", n: 240, balances: "available.bob.USD 1; clearing -162; clearing.USD -2; debt.ann -119; debt.bob -100; paid.ann 100; reserve.ann 181; reserve.bob 100; reserve.bob.USD 1"},
		// So is what is held back, once it is due: 100 of each, and later the others.
		step{ticks: 11, text: "tick", balances: "available.bob.USD 1; clearing -162; clearing.USD -2; debt.ann -19; paid.ann 100; reserve.ann 81; reserve.bob.USD 1", lots: "ann 30 @28, ann 49 @28, ann 1 @28, ann 1 @28, bob 1 @28 USD"},
		step{ticks: 7, text: "tick", balances: "available.ann 62; available.bob.USD 2; clearing -162; clearing.USD -2; paid.ann 100", lots: " "},
	)
}

func TestChargebacks(t *testing.T) {
	s := open(t, "tier 0 10%; tax 20%;")
	tell(t, s,
		step{text: "chargeback c1 s1 1", e: api.ErrNone},
		step{text: "sale s1 EUR - 1000 ann:3 bob:1", n: 120, balances: "available.ann 660; available.bob 220; clearing -1000; fee 100; tax 20"},
		step{text: "chargeback c1 s1 1001", e: api.ErrMore},
		step{text: "reverse v1 c1", e: api.ErrNone},
		step{text: "chargeback c1 s1 500", n: 440, balances: "available.ann 330; available.bob 110; clearing -500; fee 50; tax 10"},
		step{text: "chargeback c2 s1 501", e: api.ErrMore},
		step{text: "chargeback c2 s1 100", n: 88, balances: "available.ann 264; available.bob 88; clearing -400; fee 40; tax 8"},
		step{text: "refund r1 s1 100", n: 88, balances: "available.ann 198; available.bob 66; clearing -300; fee 30; tax 6"},
		step{text: "chargeback c3 c1 1", e: api.ErrNone},
		step{text: "refund r2 c1 1", e: api.ErrNone},
		step{text: "reverse v1 s1", e: api.ErrNone},
		step{text: "reverse v1 r1", e: api.ErrNone},
		step{text: "reverse v1 c3", e: api.ErrNone},
		step{text: "reverse v1 c1", n: 500, balances: "available.ann 528; available.bob 176; clearing -800; fee 80; tax 16"},
		step{text: "reverse v2 c1", e: api.ErrState},
		step{text: "reverse v2 v1", e: api.ErrNone},
		step{text: "refund r2 s1 801", e: api.ErrMore},
		step{text: "refund r2 s1 800", n: 704},
		step{text: "reverse v2 c1", e: api.ErrState},
		step{text: "reverse v2 c2", n: 100, balances: "available.ann 66; available.bob 22; clearing -100; fee 10; tax 2"},
		step{text: "reverse v3 c2", e: api.ErrState},
	)
	wantLeft(t, s, "s1", 10, 2, 66, 22)
	fails(t, s, api.Command{Kind: "chargeback", ID: "c9", About: "s1"}, api.ErrArg)
}

func TestAReverseOfAPartyInDebt(t *testing.T) {
	s := open(t, "tier 0 0%;")
	tell(t, s,
		step{text: "sale s1 EUR - 1000 ann:1 bob:1"},
		step{ticks: 7, text: "tick", n: 2, asked: "pay 1/EUR/ann 500 #1, pay 1/EUR/bob 500 #1"},
		step{text: "reply 1/EUR/ann accepted 1", n: 1},
		step{text: "reply 1/EUR/bob accepted 1", n: 1},
		step{text: "sale s2 EUR - 100 bob:1", balances: "available.bob 100; clearing -1100; paid.ann 500; paid.bob 500"},
		step{text: "chargeback c1 s1 600", n: 600, balances: "clearing -500; debt.ann -300; debt.bob -200; paid.ann 500; paid.bob 500"},
		step{text: "sale s3 EUR - 250 bob:1", balances: "available.bob 50; clearing -750; debt.ann -300; paid.ann 500; paid.bob 500"},
		step{text: "chargeback c2 s1 100", n: 100, balances: "clearing -650; debt.ann -350; paid.ann 500; paid.bob 500"},
		// Of ann's debt, 300 are as many as it gets; bob has none.
		step{text: "reverse v1 c1", n: 600, balances: "available.bob 300; clearing -1250; debt.ann -50; paid.ann 500; paid.bob 500"},
		step{text: "sale s4 EUR - 20 ann:1", balances: "available.bob 300; clearing -1270; debt.ann -30; paid.ann 500; paid.bob 500"},
		step{text: "reverse v2 c2", n: 100, balances: "available.ann 20; available.bob 350; clearing -1370; paid.ann 500; paid.bob 500"},
	)
	wantLeft(t, s, "s1", 0, 0, 500, 500)
}

func TestAReverseBehindRefunds(t *testing.T) {
	s := open(t, "tier 0 10%;")
	do(t, s, "sale s1 EUR - 10 ann:1 bob:1 cy:1") // 1, 0, and 3, 3, 3
	tell(t, s, step{text: "chargeback c1 s1 5", n: 4})
	taken := []int64{1, 0, 2, 1, 1} // the halves, and those of 1.5 by their places
	left, _ := s.Left("s1")
	for i, n := range []int64{1, 0, 3, 3, 3} {
		if left[i] != n-taken[i] {
			t.Fatal(left)
		}
	}
	tell(t, s,
		step{text: "refund r1 s1 5", n: 5},
		step{text: "reverse v1 c1", n: 5, balances: "available.ann 2; available.bob 1; available.cy 1; clearing -5; fee 1"},
	)
	wantLeft(t, s, "s1", taken...)
}

func TestHoldAndFree(t *testing.T) {
	s := open(t, "tier 0 10%;")
	holds := func(parties ...string) {
		t.Helper()
		for _, n := range names() {
			if got := s.Held(n); got != slices.Contains(parties, n) {
				t.Fatalf("%q is held: %v, want %v", n, got, parties)
			}
		}
	}
	holds()
	for i, c := range []struct {
		text    string
		n       int64
		parties []string
	}{
		{"free f1 ann", 0, nil},
		{"hold h1 ann", 1, []string{"ann"}},
		{"hold h2 ann", 1, []string{"ann"}},
		{"hold h3 bob", 2, []string{"ann", "bob"}},
		{"hold h4 h4", 3, []string{"ann", "bob", "h4"}},
		{"free f2 cy", 3, []string{"ann", "bob", "h4"}},
		{"free f3 ann", 2, []string{"bob", "h4"}},
		{"free f4 ann", 2, []string{"bob", "h4"}},
		{"free f5 h4", 1, []string{"bob"}},
		{"free f6 bob", 0, nil},
		{"hold h5 bob", 1, []string{"bob"}},
		// Of an event nothing is done once more.
		{"hold h6 cy", 2, []string{"bob", "cy"}},
		{"free f7 cy", 1, []string{"bob"}},
	} {
		tell(t, s, step{text: c.text, n: c.n})
		if holds(c.parties...); balances(s) != "" {
			t.Fatal(i, balances(s))
		}
	}
	if r, _ := do(t, s, "hold h6 cy"); (r != Reply{"hold", 2}) || s.Held("cy") {
		t.Fatal(r)
	}
}

func TestTicks(t *testing.T) {
	s := open(t, "tier 0 10%;")
	for i := range int64(100) {
		if s.Now() != i {
			t.Fatal(s.Now(), i)
		}
		tell(t, s, step{text: "tick"})
	}
	if got := told(s); got != "100 [] [] []\n" {
		t.Fatal(got)
	}
}

func TestTheLastTick(t *testing.T) {
	s := open(t, "tier 0 0%; reserve 50% 7;")
	// No test does so many ticks.
	s.now = MostTime - 8
	tell(t, s,
		step{text: "sale s1 EUR - 1000 ann:1", lots: "ann 500 @1099511627775"},
		step{ticks: 6, text: "tick", balances: "available.ann 1000; clearing -1000", lots: " "},
		step{text: "tick", n: 1, asked: "pay 137438953472/EUR/ann 1000 #1"},
	)
	if s.Now() != MostTime {
		t.Fatal(s.Now())
	}
	tell(t, s,
		step{text: "tick", e: api.ErrOver},
		step{text: "sale s2 EUR - 2 ann:1", lots: "ann 1 @1099511627783"},
		step{text: "tick", e: api.ErrOver},
		step{text: "reply 137438953472/EUR/ann accepted 1", n: 1, balances: "available.ann 1; clearing -1002; paid.ann 1000; reserve.ann 1"},
		step{text: "tick", e: api.ErrOver},
	)
}

func TestLotsAreReleased(t *testing.T) {
	s := open(t, "tier 0 0%; reserve 50% 3;")
	tell(t, s,
		step{text: "sale s1 EUR - 8 ann:1 bob:1"},
		step{text: "tick"},
		step{text: "sale s2 EUR - 20 ann:1"},
		step{text: "sale s3 USD - 40 ann:1"},
		step{text: "tick", balances: "available.ann 12; available.ann.USD 20; available.bob 2; clearing -28; clearing.USD -40; reserve.ann 12; reserve.ann.USD 20; reserve.bob 2", lots: "ann 2 @3, bob 2 @3, ann 10 @4, ann 20 @4 USD"},
		step{text: "tick", balances: "available.ann 14; available.ann.USD 20; available.bob 4; clearing -28; clearing.USD -40; reserve.ann 10; reserve.ann.USD 20", lots: "ann 10 @4, ann 20 @4 USD"},
		step{text: "sale s4 EUR - 6 bob:1", lots: "ann 10 @4, ann 20 @4 USD, bob 3 @6"},
		step{text: "tick", balances: "available.ann 24; available.ann.USD 40; available.bob 7; clearing -34; clearing.USD -40; reserve.bob 3", lots: "bob 3 @6"},
		step{text: "tick", lots: "bob 3 @6"},
		step{text: "tick", balances: "available.ann 24; available.ann.USD 40; available.bob 10; clearing -34; clearing.USD -40", lots: " "},
	)
}

func TestLotsOfNoTicks(t *testing.T) {
	s := open(t, "tier 0 0%; reserve 50% 0;")
	tell(t, s,
		step{ticks: 5, text: "sale s1 EUR - 8 ann:1", balances: "available.ann 4; clearing -8; reserve.ann 4", lots: "ann 4 @5"},
		step{text: "tick", balances: "available.ann 8; clearing -8", lots: " "},
	)
}

func TestLotsPayADebt(t *testing.T) {
	s := open(t, "tier 0 0%; reserve 50% 3;")
	tell(t, s,
		step{text: "sale s1 EUR - 40 ann:1"},
		step{text: "sale s2 EUR - 20 ann:1"},
		step{text: "sale s3 EUR - 10 ann:1"},
		step{text: "refund r1 s1 40", n: 40},
		step{text: "refund r2 s2 20", n: 20, balances: "clearing -10; debt.ann -25; reserve.ann 35"},
		// The second one of the lots pays the rest of the debt.
		step{ticks: 2, text: "tick", balances: "available.ann 10; clearing -10", lots: " "},
	)
}

func TestLotsAreReleasedAheadOfPayouts(t *testing.T) {
	s := open(t, "tier 0 0%; reserve 50% 8;")
	tell(t, s,
		step{text: "sale s1 EUR - 100 ann:1", balances: "available.ann 50; clearing -100; reserve.ann 50"},
		step{text: "tick"},
		step{text: "sale s2 EUR - 100 ann:1", balances: "available.ann 100; clearing -200; reserve.ann 100"},
		step{ticks: 6, text: "tick", n: 1, asked: "pay 1/EUR/ann 150 #1", balances: "clearing -200; flight.ann 150; reserve.ann 50", lots: "ann 50 @9"},
		step{text: "tick", balances: "available.ann 50; clearing -200; flight.ann 150", lots: " "},
	)
}

func TestPayoutsBegin(t *testing.T) {
	s := open(t, "tier 0 0%;")
	tell(t, s,
		step{text: "sale s1 EUR - 99 ann:1"},
		step{text: "sale s2 EUR - 100 bob:1"},
		step{text: "sale s3 EUR - 12345 cy:1"},
		step{text: "sale s4 EUR - 1 dan:1"},
		step{ticks: 7, text: "tick", n: 2, asked: "pay 1/EUR/bob 100 #1, pay 1/EUR/cy 12345 #1",
			balances: "available.ann 99; available.dan 1; clearing -12545; flight.bob 100; flight.cy 12345"},
	)
	if got := states(s.Payouts()); got != "1/EUR/bob 100 asked @10 0 #1, 1/EUR/cy 12345 asked @10 0 #1" {
		t.Fatal(got)
	}
	want := attempt.Payout{Key: "1/EUR/bob", Party: "bob", Currency: "EUR", Amount: 100, State: attempt.Asked, Next: 10, Tries: 0, Attempt: 1}
	if got := s.Payouts()[0]; got != want {
		t.Fatalf("%+v, want %+v", got, want)
	}
	// One more is enough at the next cut-off, but not ahead of it.
	tell(t, s, step{text: "reply 1/EUR/bob accepted 1", n: 1}, step{text: "reply 1/EUR/cy accepted 1", n: 1}, step{text: "sale s5 EUR - 1 ann:1"})
	for range 7 {
		tell(t, s, step{text: "tick"})
	}
	tell(t, s, step{text: "tick", n: 1, asked: "pay 2/EUR/ann 100 #1", balances: "available.dan 1; clearing -12546; flight.ann 100; paid.bob 100; paid.cy 12345"})
}

func TestPayoutsBeginInOrder(t *testing.T) {
	s := open(t, "tier 0 0%;")
	do(t, s,
		"sale s1 USD - 100 b:1", "sale s2 EUR - 200 bob:1", "sale s3 CHF - 300 b:1", "sale s4 USD - 400 ann:1",
		"sale s5 EUR - 500 b:1", "sale s6 EUR - 600 B:1", "sale s7 CHF - 700 bob:1", "sale s8 EUR - 800 -b:1", "sale s9 AAA - 900 a/z:1", "sale r1 ZZZ - 990 a:1")
	want := "pay 1/EUR/-b 800 #1, pay 1/EUR/B 600 #1, pay 1/ZZZ/a 990 #1, pay 1/AAA/a/z 900 #1, pay 1/USD/ann 400 #1, pay 1/CHF/b 300 #1, pay 1/EUR/b 500 #1, pay 1/USD/b 100 #1, pay 1/CHF/bob 700 #1, pay 1/EUR/bob 200 #1"
	tell(t, s, step{ticks: 7, text: "tick", n: 10, asked: want})
	for i, p := range s.Payouts() {
		if !strings.HasPrefix(strings.Split(want, ", ")[i], "pay "+p.Key+" ") {
			t.Fatal(i, p)
		}
	}
}

func TestPayoutsOfOneThatIsHeld(t *testing.T) {
	s := open(t, "tier 0 0%;")
	tell(t, s,
		step{text: "sale s1 EUR - 100 ann:1"},
		step{text: "sale s2 EUR - 200 bob:1"},
		step{text: "sale s3 USD - 300 ann:1"},
		step{text: "hold h1 ann", n: 1},
		step{ticks: 7, text: "tick", n: 1, asked: "pay 1/EUR/bob 200 #1"},
		// One that is on its way goes on.
		step{text: "hold h2 bob", n: 2},
		step{text: "tick"},
		step{text: "tick", n: 1, asked: "query 1/EUR/bob 200 #2"},
		step{text: "reply 1/EUR/bob unknown 2", n: 1},
		step{text: "tick", n: 1, asked: "pay 1/EUR/bob 200 #3"},
		step{text: "reply 1/EUR/bob declined 3", n: 1, balances: "available.ann 100; available.ann.USD 300; available.bob 200; clearing -300; clearing.USD -300"},
		step{text: "free f1 ann", n: 1},
		// It waits for a cut-off.
		step{text: "tick"},
		step{ticks: 3, text: "tick", n: 2, asked: "pay 2/EUR/ann 100 #1, pay 2/USD/ann 300 #1"},
		step{text: "free f2 bob", n: 0},
		step{text: "reply 2/EUR/ann accepted 1", n: 1},
		step{text: "reply 2/USD/ann accepted 1", n: 1},
		step{ticks: 7, text: "tick", n: 1, asked: "pay 3/EUR/bob 200 #1"},
	)
}

func TestPayoutsOfOneThatHasOne(t *testing.T) {
	s := open(t, "tier 0 0%;")
	tell(t, s,
		step{text: "sale s1 EUR - 100 ann:1"},
		step{ticks: 7, text: "tick", n: 1, asked: "pay 1/EUR/ann 100 #1"},
		step{text: "sale s2 EUR - 500 ann:1 bob:1"},
		step{text: "sale s3 USD - 300 ann:1"},
		step{text: "tick"},
		step{text: "tick", n: 1, asked: "query 1/EUR/ann 100 #2"},
		step{text: "reply 1/EUR/ann unknown 2", n: 1},
		step{text: "tick", n: 1, asked: "pay 1/EUR/ann 100 #3"},
		step{text: "tick"},
		step{text: "tick", n: 1, asked: "query 1/EUR/ann 100 #4"},
		step{text: "tick"},
		step{text: "tick", n: 1, asked: "query 1/EUR/ann 100 #5"},
		// In another currency it has none, and bob has none at all; those that began first step first.
		step{text: "tick", n: 2, asked: "pay 2/USD/ann 300 #1, pay 2/EUR/bob 250 #1", balances: "available.ann 250; clearing -600; clearing.USD -300; flight.ann 100; flight.ann.USD 300; flight.bob 250"},
	)
	if got := states(s.Payouts()); got != "1/EUR/ann 100 queried @19 2 #5, 2/USD/ann 300 asked @18 0 #1, 2/EUR/bob 250 asked @18 0 #1" {
		t.Fatal(got)
	}
	tell(t, s,
		step{text: "tick"},
		step{text: "reply 2/USD/ann accepted 1", n: 1},
		step{text: "tick", n: 1, asked: "query 2/EUR/bob 250 #2"},
		step{text: "tick", n: 1, asked: "query 1/EUR/ann 100 #6"},
		step{text: "reply 1/EUR/ann accepted 3", n: 1},
		step{text: "reply 2/EUR/bob declined 1", n: 1},
		step{text: "sale s4 USD - 99 ann:1"},
		// One that is over, paid or back, keeps no other one from beginning.
		step{ticks: 4, text: "tick", n: 2, asked: "pay 3/EUR/ann 250 #1, pay 3/EUR/bob 250 #1", balances: "available.ann.USD 99; clearing -600; clearing.USD -399; flight.ann 250; flight.bob 250; paid.ann 100; paid.ann.USD 300"},
	)
	if got := states(s.Payouts()); got != "1/EUR/ann 100 paid @25 3 #6, 2/USD/ann 300 paid @18 0 #1, 2/EUR/bob 250 back @20 0 #2, 3/EUR/ann 250 asked @26 0 #1, 3/EUR/bob 250 asked @26 0 #1" {
		t.Fatal(got)
	}
}

func TestPayoutsStepInTheOrderInWhichTheyBegan(t *testing.T) {
	s := open(t, "tier 0 0%;")
	tell(t, s,
		step{text: "sale s1 EUR - 100 dan:1"},
		step{ticks: 7, text: "tick", n: 1, asked: "pay 1/EUR/dan 100 #1"},
		step{text: "sale s2 EUR - 300 cy:1"},
		step{ticks: 1, text: "tick", n: 1, asked: "query 1/EUR/dan 100 #2"},
		step{ticks: 1, text: "tick", n: 1, asked: "query 1/EUR/dan 100 #3"},
		step{ticks: 2, text: "tick", n: 1, asked: "query 1/EUR/dan 100 #4"},
		step{text: "tick", n: 1, asked: "pay 2/EUR/cy 300 #1"},
		step{text: "sale s3 EUR - 200 ann:1 bob:1"},
		step{ticks: 1, text: "tick", n: 1, asked: "query 2/EUR/cy 300 #2"},
		step{text: "tick", n: 1, asked: "query 1/EUR/dan 100 #5"},
		step{text: "tick", n: 1, asked: "query 2/EUR/cy 300 #3"},
		step{ticks: 2, text: "tick", n: 1, asked: "query 2/EUR/cy 300 #4"},
		step{text: "tick", n: 2, asked: "pay 3/EUR/ann 100 #1, pay 3/EUR/bob 100 #1"},
		step{text: "tick", n: 1, asked: "query 1/EUR/dan 100 #6"},
		step{text: "tick", n: 2, asked: "query 3/EUR/ann 100 #2, query 3/EUR/bob 100 #2"},
		// At 35 it's the turn of the one that began at 8, and of those that began at 24.
		step{ticks: 8, text: "tick", n: 3, asked: "query 1/EUR/dan 100 #7, query 3/EUR/ann 100 #5, query 3/EUR/bob 100 #5"},
	)
}

// inFlight is a state at the tick 8, with a payout of 500 to ann, and one of 300 to bob.
func inFlight(t *testing.T) *State {
	t.Helper()
	s := open(t, "tier 0 0%;")
	do(t, s, "sale s1 EUR - 800 ann:5 bob:3")
	if l := ticks(t, s, 8); asked(t, l) != "pay 1/EUR/ann 500 #1, pay 1/EUR/bob 300 #1" {
		t.Fatal(l)
	}
	return s
}

func TestReplies(t *testing.T) {
	const (
		still = "clearing -800; flight.ann 500; flight.bob 300"
		paid  = "clearing -800; flight.bob 300; paid.ann 500"
		back  = "available.ann 500; clearing -800; flight.bob 300"
	)
	for _, c := range []struct {
		ticks    int // behind the first one
		text     string
		n        int64
		balances string
		payout   string
	}{
		{0, "reply 1/EUR/ann accepted 1", 1, paid, "paid @10 0 #1"},
		{0, "reply 1/EUR/ann accepted 0", 1, paid, "paid @10 0 #1"},
		{0, "reply 1/EUR/ann accepted 1125899906842624", 1, paid, "paid @10 0 #1"},
		{0, "reply 1/EUR/ann declined 1", 1, back, "back @10 0 #1"},
		{0, "reply 1/EUR/ann declined 7", 1, back, "back @10 0 #1"},
		{0, "reply 1/EUR/ann unknown 1", 0, still, "asked @10 0 #1"},
		{0, "reply 1/EUR/ann Accepted 1", 0, still, "asked @10 0 #1"},
		{0, "reply 1/EUR/ann paid 1", 0, still, "asked @10 0 #1"},
		{1, "reply 1/EUR/ann accepted 1", 1, paid, "paid @10 0 #1"},
		{2, "reply 1/EUR/ann accepted 1", 1, paid, "paid @12 0 #2"},
		{2, "reply 1/EUR/ann declined 1", 1, back, "back @12 0 #2"},
		{2, "reply 1/EUR/ann unknown 1", 0, still, "queried @12 0 #2"},
		{2, "reply 1/EUR/ann unknown 3", 0, still, "queried @12 0 #2"},
		{2, "reply 1/EUR/ann unknown 2", 1, still, "ready @11 1 #2"},
		{3, "reply 1/EUR/ann unknown 2", 1, still, "ready @12 1 #2"},
		{4, "reply 1/EUR/ann unknown 2", 0, still, "queried @15 1 #3"},
		{4, "reply 1/EUR/ann unknown 3", 1, still, "ready @14 2 #3"},
		{4, "reply 1/EUR/ann declined 2", 1, back, "back @15 1 #3"},
		{2, "reply 1/EUR/ann lost 2", 0, still, "queried @12 0 #2"},
	} {
		s := inFlight(t)
		ticks(t, s, c.ticks)
		tell(t, s, step{text: c.text, n: c.n, balances: c.balances})
		if got := states(s.Payouts()[:1]); got != "1/EUR/ann 500 "+c.payout {
			t.Fatalf("behind %d, %s: %s, want %s", c.ticks, c.text, got, c.payout)
		}
		if bob := s.Payouts()[1].State; bob != attempt.Asked && bob != attempt.Queried {
			t.Fatalf("behind %s bob's is %s", c.text, bob)
		}
		if _, ok := s.Told(""); ok {
			t.Fatal("an event of no ID")
		}
	}
}

func TestRepliesToOneThatIsOver(t *testing.T) {
	for _, first := range []string{"accepted", "declined"} {
		s := inFlight(t)
		do(t, s, "reply 1/EUR/ann "+first+" 1")
		before := told(s)
		for _, kind := range []string{"accepted", "declined", "unknown", "lost", "paid", "back"} {
			for _, attempt := range []string{"0", "1", "2", "3"} {
				tell(t, s, step{text: "reply 1/EUR/ann " + kind + " " + attempt, n: 0})
			}
		}
		if told(s) != before {
			t.Fatal(told(s), before)
		}
	}
}

func TestRepliesToNoPayout(t *testing.T) {
	s := open(t, "tier 0 0%;")
	tell(t, s, step{text: "reply 1/EUR/ann accepted 1", e: api.ErrNone})
	s = inFlight(t)
	for _, key := range []string{"1/EUR/cy", "2/EUR/ann", "0/EUR/ann", "1/USD/ann", "1/EUR/an", "1/EUR/anna", "1/EUR/", "1/EUR", "ann", "1", "s1", "01/EUR/ann", "1/eur/ann", "1/EUR/Ann", "12345678901234567890123456789012345678901234567890123456789/"} {
		for _, kind := range []string{"accepted", "declined", "unknown", "lost"} {
			tell(t, s, step{text: "reply " + key + " " + kind + " 1", e: api.ErrNone})
		}
	}
}

func TestAPayoutThatComesBackBeginsAnew(t *testing.T) {
	s := inFlight(t)
	tell(t, s,
		step{text: "reply 1/EUR/ann declined 1", n: 1},
		step{text: "reply 1/EUR/bob accepted 1", n: 1},
		step{text: "sale s2 EUR - 40 ann:1", balances: "available.ann 540; clearing -840; paid.bob 300"},
		step{ticks: 7, text: "tick", n: 1, asked: "pay 2/EUR/ann 540 #1"},
		step{text: "reply 1/EUR/ann accepted 1", n: 0},
		step{text: "reply 2/EUR/ann accepted 1", n: 1, balances: "clearing -840; paid.ann 540; paid.bob 300"},
	)
}

func TestANilState(t *testing.T) {
	var s *State
	for _, text := range someOfEachKind() {
		if r, l, e := s.Do(parsed(t, text)); (r != Reply{}) || l != nil || e != api.ErrArg {
			t.Fatal(text, r, l, e)
		}
	}
	twice := api.Command{Kind: "sale", ID: "s1", Currency: "EUR", Amount: 1, Shares: []api.Share{{Party: "ann", Weight: 1}, {Party: "ann", Weight: 1}}}
	for _, c := range []api.Command{{}, {Kind: "x"}, twice} {
		if r, l, e := s.Do(c); (r != Reply{}) || l != nil || e != api.ErrArg {
			t.Fatal(c, r, l, e)
		}
	}
	if s.Clone() != nil || s.Now() != 0 || s.Balances() != nil || s.Lots() != nil || s.Payouts() != nil {
		t.Fatal("a nil state has something")
	}
	for _, n := range names() {
		l, sold := s.Left(n)
		r, event := s.Told(n)
		if l != nil || sold || r != (Reply{}) || event || s.Held(n) {
			t.Fatal(n)
		}
		for _, kind := range []string{"", "clearing", "fee", "tax", "available", "reserve", "flight", "paid", "debt"} {
			if s.Balance(kind, n, "EUR") != 0 {
				t.Fatal(kind, n)
			}
		}
	}
}

func TestAStateThatNewDidNotMake(t *testing.T) {
	s := &State{}
	for _, text := range someOfEachKind() {
		fails(t, s, parsed(t, text), api.ErrArg)
	}
	if got := told(s); got != "0 [] [] []\n" || told(s.Clone()) != got {
		t.Fatal(got)
	}
}

// someOfEachKind is a command of each Kind that may be.
func someOfEachKind() []string {
	return []string{
		"sale s1 EUR - 1000 ann:1", "refund r1 s1 1", "chargeback c1 s1 1", "reverse v1 c1", "hold h1 ann", "free f1 ann", "tick", "reply 1/EUR/ann accepted 1",
	}
}
