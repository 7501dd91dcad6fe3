package state

import (
	"fmt"
	"reflect"
	"slices"
	"strings"
	"testing"

	"souk/api"
)

// busy is a state with something of everything: sales, some of them taken back, a chargeback and one that was reversed, lots, debt, parties that are held, and payouts in all of their states.
func busy(t *testing.T) *State {
	t.Helper()
	s := open(t, "tier 0 10%; tax 20%; reserve 25% 9;")
	do(t, s,
		"sale s1 EUR - 1000 ann:3 bob:1", "sale s2 EUR - 2000 cy:1 dan:1 eve:1", "sale s3 USD - 1000 ann:1", "hold h1 bob", "hold h2 fay")
	ticks(t, s, 8)
	do(t, s, "reply 1/EUR/ann accepted 1", "reply 1/EUR/cy declined 1")
	ticks(t, s, 2)
	do(t, s, "reply 1/EUR/dan unknown 2",
		"sale s4 EUR - 400 ann:1", "refund r1 s2 500", "chargeback c1 s1 800", "chargeback c2 s3 100", "chargeback c3 s2 100", "reverse v1 c3", "free f1 fay", "free f2 gus")
	if got := states(s.Payouts()); got != "1/EUR/ann 495 paid @10 0 #1, 1/USD/ann 660 queried @12 0 #2, 1/EUR/cy 441 back @10 0 #1, 1/EUR/dan 441 ready @11 1 #2, 1/EUR/eve 440 queried @12 0 #2" {
		t.Fatal(got)
	}
	// Neither the reserve of s1 to s3 nor all of s4's is there any more.
	if got := held(s.Lots()); got != "ann 88 @19" {
		t.Fatal(got)
	}
	return s
}

// wrong is commands that may not be, of each Kind, and of none.
func wrong() map[string]api.Command {
	share := func(party string, weight int64) []api.Share { return []api.Share{{Party: party, Weight: weight}} }
	l := map[string]api.Command{
		"nothing":                {},
		"no Kind":                {ID: "s9", Currency: "EUR", Amount: 5, Shares: share("ann", 1)},
		"another Kind":           {Kind: "Sale", ID: "s9", Currency: "EUR", Amount: 5, Shares: share("ann", 1)},
		"a Kind that isn't":      {Kind: "cancel", ID: "s9", About: "s1"},
		"no ID":                  {Kind: "sale", Currency: "EUR", Amount: 5, Shares: share("ann", 1)},
		"an ID -":                {Kind: "sale", ID: "-", Currency: "EUR", Amount: 5, Shares: share("ann", 1)},
		"an ID too long":         {Kind: "sale", ID: strings.Repeat("s", 21), Currency: "EUR", Amount: 5, Shares: share("ann", 1)},
		"no currency":            {Kind: "sale", ID: "s9", Amount: 5, Shares: share("ann", 1)},
		"a currency":             {Kind: "sale", ID: "s9", Currency: "eur", Amount: 5, Shares: share("ann", 1)},
		"a category":             {Kind: "sale", ID: "s9", Currency: "EUR", Category: "-", Amount: 5, Shares: share("ann", 1)},
		"an amount of 0":         {Kind: "sale", ID: "s9", Currency: "EUR", Shares: share("ann", 1)},
		"an amount below 0":      {Kind: "sale", ID: "s9", Currency: "EUR", Amount: -5, Shares: share("ann", 1)},
		"an amount too great":    {Kind: "sale", ID: "s9", Currency: "EUR", Amount: api.MaxAmount + 1, Shares: share("ann", 1)},
		"no shares":              {Kind: "sale", ID: "s9", Currency: "EUR", Amount: 5},
		"a share of nobody":      {Kind: "sale", ID: "s9", Currency: "EUR", Amount: 5, Shares: share("", 1)},
		"a share of no name":     {Kind: "sale", ID: "s9", Currency: "EUR", Amount: 5, Shares: share("a b", 1)},
		"a weight of 0":          {Kind: "sale", ID: "s9", Currency: "EUR", Amount: 5, Shares: share("ann", 0)},
		"a weight too great":     {Kind: "sale", ID: "s9", Currency: "EUR", Amount: 5, Shares: share("ann", api.MaxAmount+1)},
		"a sale about something": {Kind: "sale", ID: "s9", About: "s1", Currency: "EUR", Amount: 5, Shares: share("ann", 1)},
		"a tick with an ID":      {Kind: "tick", ID: "s9"},
		"a tick with an amount":  {Kind: "tick", Amount: 1},
		"a reply with an ID":     {Kind: "reply", ID: "s9", About: "1/EUR/eve", Category: "accepted", Amount: 1},
		"a reply of nothing":     {Kind: "reply", Category: "accepted", Amount: 1},
		"a reply that is empty":  {Kind: "reply", About: "1/EUR/eve", Amount: 1},
		"a reply below 0":        {Kind: "reply", About: "1/EUR/eve", Category: "accepted", Amount: -1},
		"a reply with shares":    {Kind: "reply", About: "1/EUR/eve", Category: "accepted", Amount: 1, Shares: share("eve", 1)},
	}
	for _, kind := range []string{"refund", "chargeback"} {
		l[kind+" without an ID"] = api.Command{Kind: kind, About: "s1", Amount: 1}
		l[kind+" about nothing"] = api.Command{Kind: kind, ID: "r9", Amount: 1}
		l[kind+" of nothing"] = api.Command{Kind: kind, ID: "r9", About: "s1"}
		l[kind+" below 0"] = api.Command{Kind: kind, ID: "r9", About: "s1", Amount: -1}
		l[kind+" too great"] = api.Command{Kind: kind, ID: "r9", About: "s1", Amount: api.MaxAmount + 1}
		l[kind+" with a currency"] = api.Command{Kind: kind, ID: "r9", About: "s1", Currency: "EUR", Amount: 1}
	}
	for _, kind := range []string{"reverse", "hold", "free"} {
		l[kind+" without an ID"] = api.Command{Kind: kind, About: "c1"}
		l[kind+" about nothing"] = api.Command{Kind: kind, ID: "v9"}
		l[kind+" with an amount"] = api.Command{Kind: kind, ID: "v9", About: "c1", Amount: 1}
		l[kind+" about no name"] = api.Command{Kind: kind, ID: "v9", About: "c:1"}
	}
	return l
}

func TestCommandsThatMayNotBe(t *testing.T) {
	s := busy(t)
	for name, c := range wrong() {
		t.Run(name, func(t *testing.T) { fails(t, s, c, api.ErrArg) })
	}
	nine := api.Command{Kind: "sale", ID: "s9", Currency: "EUR", Amount: 5}
	for i := range int64(9) {
		nine.Shares = append(nine.Shares, api.Share{Party: fmt.Sprint("p", i), Weight: 1})
	}
	fails(t, s, nine, api.ErrArg)
	nine.Shares = nine.Shares[:8]
	nine.Shares[7].Party = "p0"
	fails(t, s, nine, api.ErrTwice)
	nine.Category = "-"
	fails(t, s, nine, api.ErrArg)
}

// impossible is commands that may be, but can't be done by a busy state.
func impossible() []step {
	return []step{
		{text: "refund x s9 1", e: api.ErrNone},
		{text: "refund x c1 1", e: api.ErrNone},
		{text: "refund x s1 201", e: api.ErrMore},
		{text: "chargeback x s9 1", e: api.ErrNone},
		{text: "chargeback x h1 1", e: api.ErrNone},
		{text: "chargeback x s1 201", e: api.ErrMore},
		{text: "chargeback x s1 1125899906842624", e: api.ErrMore},
		{text: "reverse x c9", e: api.ErrNone},
		{text: "reverse x s1", e: api.ErrNone},
		{text: "reverse x r1", e: api.ErrNone},
		{text: "reverse x c3", e: api.ErrState},
		{text: "reply x accepted 1", e: api.ErrNone},
		{text: "reply 2/EUR/eve declined 1", e: api.ErrNone},
	}
}

func TestErrorsMakeNoEvent(t *testing.T) {
	s := busy(t)
	for _, x := range impossible() {
		for range 2 {
			tell(t, s, x)
		}
		if r, ok := s.Told("x"); (r != Reply{}) || ok {
			t.Fatal(x.text, r)
		}
	}
	for name, c := range wrong() {
		fails(t, s, c, api.ErrArg)
		for _, id := range []string{"s9", "r9", "v9", c.ID} {
			if r, ok := s.Told(id); (r != Reply{}) || ok {
				t.Fatal(name, r)
			}
		}
	}
	// Behind all of these the ID is free: a sale can have it.
	tell(t, s, step{text: "sale x CHF - 10 ann:1", n: 1})
	if r, ok := s.Told("x"); (r != Reply{"sale", 1}) || !ok {
		t.Fatal(r, ok)
	}
	wantLeft(t, s, "x", 1, 0, 9)
}

// events are the IDs of a busy state, and what they were told.
func events() map[string]Reply {
	return map[string]Reply{
		"s1": {"sale", 120}, "s2": {"sale", 240}, "s3": {"sale", 120}, "s4": {"sale", 48},
		"h1": {"hold", 1}, "h2": {"hold", 2}, "f1": {"free", 1}, "f2": {"free", 1},
		"r1": {"refund", 440}, "c1": {"chargeback", 704}, "c2": {"chargeback", 88}, "c3": {"chargeback", 88}, "v1": {"reverse", 100},
	}
}

func TestWhatEventsWereTold(t *testing.T) {
	s, want := busy(t), events()
	for _, n := range names() {
		r, ok := s.Told(n)
		if w, is := want[n]; r != w || ok != is {
			t.Fatalf("%q was told %v %v, want %v %v", n, r, ok, w, is)
		}
	}
}

// ofAnID is commands of an ID, some of which can't be done.
func ofAnID(id string) []string {
	return []string{
		"sale " + id + " EUR - 1000 ann:3 bob:1", "sale " + id + " EUR - 1 ann:1", "sale " + id + " CHF books 5 gus:1",
		"refund " + id + " s1 1", "refund " + id + " s1 9999", "refund " + id + " s9 1", "refund " + id + " " + id + " 1",
		"chargeback " + id + " s1 1", "chargeback " + id + " s1 9999", "chargeback " + id + " s9 1",
		"reverse " + id + " c1", "reverse " + id + " c3", "reverse " + id + " c9",
		"hold " + id + " ann", "hold " + id + " bob", "free " + id + " bob", "free " + id + " gus",
	}
}

func TestAnEventAgain(t *testing.T) {
	s := busy(t)
	before, twin := told(s), s.Clone()
	for id, want := range events() {
		for _, text := range ofAnID(id) {
			r, l, e := s.Do(parsed(t, text))
			if r != want || l != nil || e != api.OK {
				t.Fatal(text, r, l, e, want)
			}
			if told(s) != before || !reflect.DeepEqual(s, twin) {
				t.Fatalf("%s: behind\n%sahead\n%s", text, told(s), before)
			}
		}
		// What may not be is none of its commands.
		for _, c := range []api.Command{{Kind: "hold", ID: id}, {Kind: "tick", ID: id}, {ID: id}, {Kind: "refund", ID: id, About: "s1"}} {
			fails(t, s, c, api.ErrArg)
		}
		fails(t, s, api.Command{Kind: "sale", ID: id, Currency: "EUR", Amount: 1, Shares: []api.Share{{Party: "ann", Weight: 1}, {Party: "ann", Weight: 1}}}, api.ErrTwice)
	}
}

func TestAnEventIsToldTheSameLater(t *testing.T) {
	s := busy(t)
	for range 50 {
		ticks(t, s, 1)
		for _, p := range s.Payouts() {
			do(t, s, "reply "+p.Key+" accepted "+fmt.Sprint(p.Attempt))
		}
		for id, want := range events() {
			if r, ok := s.Told(id); r != want || !ok {
				t.Fatal(id, r, want)
			}
			if r, l, e := s.Do(parsed(t, "hold "+id+" gus")); r != want || l != nil || e != api.OK {
				t.Fatal(id, r, l, e)
			}
		}
	}
}

func TestNoIDIsNoEvent(t *testing.T) {
	s := inFlight(t)
	for i := range 5 {
		tell(t, s, step{text: "reply 1/EUR/ann unknown 1", n: 0})
		if r, ok := s.Told(""); (r != Reply{}) || ok || s.Now() != int64(8+i) {
			t.Fatal(r, ok, s.Now())
		}
		ticks(t, s, 1)
	}
}

func TestErrorsChangeNothing(t *testing.T) {
	s := busy(t)
	for _, x := range impossible() {
		tell(t, s, x)
	}
	// Behind errors it goes on as if there had been none.
	twin := busy(t)
	for i := range 40 {
		text := fmt.Sprint("sale t", i, " EUR - ", 100+i, " ann:1 bob:2")
		a, la := do(t, s, "tick")
		b, lb := do(t, twin, "tick")
		if a != b || !slices.Equal(la, lb) {
			t.Fatal(i, a, b)
		}
		for _, x := range impossible() {
			if x.e != api.ErrNone || !strings.HasPrefix(x.text, "reply") { // later there may be one of that key
				tell(t, s, step{text: x.text, e: x.e})
			}
		}
		do(t, s, text)
		do(t, twin, text)
		if told(s) != told(twin) {
			t.Fatal(i, told(s), told(twin))
		}
	}
}

func TestTheCommandStays(t *testing.T) {
	s := open(t, "tier 0 10%; reserve 50% 5;")
	shares := []api.Share{{Party: "ann", Weight: 3}, {Party: "bob", Weight: 1}, {Party: "ann", Weight: 7}}
	c := api.Command{Kind: "sale", ID: "s1", Currency: "EUR", Amount: 1000, Shares: shares[:2]}
	given := fmt.Sprintf("%#v", c)
	if r, _, e := s.Do(c); r.N != 100 || e != api.OK || fmt.Sprintf("%#v", c) != given || shares[2] != (api.Share{Party: "ann", Weight: 7}) {
		t.Fatal(r, e, c)
	}
	before := told(s)
	shares[0], shares[1] = api.Share{Party: "gus", Weight: 1}, api.Share{Party: "hal", Weight: 1}
	if told(s) != before {
		t.Fatal(told(s))
	}
	tell(t, s, step{text: "refund r1 s1 1000", n: 900, balances: "debt.ann -337; debt.bob -112; reserve.ann 337; reserve.bob 112"})
}

func TestAnswersAreNotShared(t *testing.T) {
	s := busy(t)
	before := told(s)
	clear(s.Balances())
	clear(s.Lots())
	clear(s.Payouts())
	for _, id := range []string{"s1", "s2", "s3", "s4"} {
		l, _ := s.Left(id)
		clear(l)
	}
	if told(s) != before {
		t.Fatalf("behind\n%sahead\n%s", told(s), before)
	}
	// Nor is what was answered ahead changed later.
	lines, lots, payouts := s.Balances(), s.Lots(), s.Payouts()
	left, _ := s.Left("s1")
	_, requests := do(t, s, "tick")
	was := fmt.Sprint(lines, lots, payouts, left, requests)
	twin := s.Clone()
	clear(requests)
	do(t, s, "tick", "refund r9 s1 100", "sale s9 EUR - 500 ann:1", "reverse v9 c1", "reply 1/EUR/eve accepted 1")
	do(t, twin, "tick", "refund r9 s1 100", "sale s9 EUR - 500 ann:1", "reverse v9 c1", "reply 1/EUR/eve accepted 1")
	if told(s) != told(twin) {
		t.Fatal(told(s), told(twin))
	}
	if got := fmt.Sprint(lines, lots, payouts, left); !strings.HasPrefix(was, got) {
		t.Fatal(got, was)
	}
	_, requests = do(t, s, "tick")
	was = fmt.Sprint(requests)
	ticks(t, s, 20)
	if fmt.Sprint(requests) != was {
		t.Fatal(requests, was)
	}
}

// changes are commands each of which changes a busy state.
func changes() []string {
	return []string{
		"sale s9 EUR - 1000 ann:3 bob:1", "sale s9 CHF - 1 gus:1",
		"refund r9 s1 1", "refund r9 s2 1500", "chargeback c9 s1 200", "chargeback c9 s4 1",
		"reverse v9 c1", "reverse v9 c2", "hold h9 ann", "hold h9 bob", "free f9 bob", "free f9 ann",
		"tick", "reply 1/EUR/dan accepted 1", "reply 1/EUR/dan declined 1", "reply 1/EUR/eve accepted 2", "reply 1/EUR/eve unknown 2", "reply 1/USD/ann declined 1",
	}
}

func TestClones(t *testing.T) {
	for _, text := range changes() {
		for _, cloned := range []bool{false, true} {
			s := busy(t)
			x := s.Clone()
			before := told(s)
			if told(x) != before || x == s {
				t.Fatalf("%s\n%s", told(x), before)
			}
			one, other := s, x
			if cloned {
				one, other = x, s
			}
			do(t, one, text)
			if told(one) == before {
				t.Fatalf("%s changes nothing", text)
			}
			if told(other) != before {
				t.Fatalf("%s: behind\n%sahead\n%s", text, told(other), before)
			}
			// The other one does the same, whatever was done to the first.
			ticks(t, one, 12)
			do(t, other, text)
			ticks(t, other, 12)
			if told(one) != told(other) {
				t.Fatalf("%s: one\n%sthe other\n%s", text, told(one), told(other))
			}
		}
	}
}

func TestClonesGoOnApart(t *testing.T) {
	for i, a := range changes() {
		for j, b := range changes() {
			s := busy(t)
			x := s.Clone()
			wantS, wantX := busy(t), busy(t)
			for _, y := range []struct {
				s    *State
				text string
			}{{s, a}, {x, b}, {wantS, a}, {wantX, b}, {s, b}, {x, a}, {wantS, b}, {wantX, a}} {
				y.s.Do(parsed(t, y.text))
			}
			for range 3 {
				for _, y := range []*State{s, x, wantS, wantX} {
					ticks(t, y, 5)
				}
				if told(s) != told(wantS) || told(x) != told(wantX) {
					t.Fatalf("%d %d: %s, %s:\n%s%s%s%s", i, j, a, b, told(s), told(wantS), told(x), told(wantX))
				}
			}
		}
	}
}

func TestAClonesClone(t *testing.T) {
	s := busy(t)
	l := []*State{s, s.Clone(), s.Clone().Clone()}
	before := told(s)
	do(t, l[1], "tick", "refund r9 s1 1")
	if told(l[0]) != before || told(l[2]) != before {
		t.Fatal(told(l[0]), told(l[2]))
	}
	do(t, l[2], "reverse v9 c1")
	if told(l[0]) != before {
		t.Fatal(told(l[0]))
	}
	tell(t, l[1], step{text: "reverse v9 c1", n: 800})
	tell(t, l[0], step{text: "reverse v9 c1", n: 800}, step{text: "reverse v8 c1", e: api.ErrState})
}

func TestToldAgain(t *testing.T) {
	a, b := busy(t), busy(t)
	for range 30 {
		x, lx := do(t, a, "tick")
		y, ly := do(t, b, "tick")
		if x != y || !slices.Equal(lx, ly) || told(a) != told(b) || told(a) != told(a) {
			t.Fatal(x, y, lx, ly)
		}
	}
}
