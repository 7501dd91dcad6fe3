package attempt

import (
	"fmt"
	"math"
	"math/rand/v2"
	"testing"

	"souk/api"
	"souk/dial"
	"souk/gate"
)

// The edges of the numbers that the chapter speaks of.
const most, least = int64(1) << 62, -(int64(1) << 62)

// The calls, as the chapter lists them.
var (
	_ func(Payout) bool                                 = Payout.Over
	_ func(Payout, int64) (Payout, api.Request, bool)   = Payout.Step
	_ func(Payout, string, int64, int64) (Payout, bool) = Payout.Hear
)

// row is what the chapter says of a State: whether it is over; else what is asked by it, which one is behind that, and whether that is put off.
type row struct {
	state  string
	over   bool
	kind   string
	behind string
	off    bool
}

// rows are the chapter's States, the empty one, and some that are none.
func rows() []row {
	l := []row{
		{"ready", false, "pay", "asked", false},
		{"asked", false, "query", "queried", false},
		{"queried", false, "query", "queried", true},
		{"paid", true, "", "", false},
		{"back", true, "", "", false},
	}
	for _, s := range []string{"", "Ready", "READY", "read", "readyy", " ready", "ready\x00", "ask", "Asked", "query", "Queried", "Paid", "PAID", "pai", "paid ", "paidback", "Back", "backs", "bac", "pay", "over", "accepted", "declined", "unknown", "\xff"} {
		l = append(l, row{s, false, "query", s, true})
	}
	return l
}

// waits is how many ticks are waited behind so many tries, written out.
func waits(tries int64) int64 {
	switch {
	case tries <= 0:
		return 1
	case tries == 1:
		return 2
	case tries == 2:
		return 4
	}
	return 8
}

// payouts are of a State, Next, Tries and Attempt, with ordinary fields, with empty ones, and with an amount below 0.
func payouts(state string, next, tries, attempt int64) []Payout {
	return []Payout{
		{"1/EUR/ann", "ann", "EUR", 900, state, next, tries, attempt},
		{"", "", "", 0, state, next, tries, attempt},
		{"k", "", "USD", -7, state, next, tries, attempt},
		{"", "bob", "", least, state, next, tries, attempt},
		{"EUR", "k", "bob", most, state, next, tries, attempt},
	}
}

// numbers are those next to 0, some others, and those at the edges.
func numbers() []int64 {
	return []int64{0, 1, 2, 3, 4, 5, 9, 64, 1 << 31, 1 << 32, 1<<32 + 1, 1 << 61, most - 11, most - 1, most,
		-1, -2, -3, -9, -64, -1 << 31, -1 << 32, 1 - 1<<32, -1 << 61, least + 11, least + 1, least}
}

// wantStep holds a step's three answers, field by field.
func wantStep(t *testing.T, p Payout, now int64, want Payout, asked api.Request, is bool) {
	t.Helper()
	before := p
	q, r, ok := p.Step(now)
	if p != before {
		t.Fatalf("Step(%d) changed %v to %v", now, before, p)
	}
	if ok != is {
		t.Errorf("Step(%d) of %v: %v, want %v", now, p, ok, is)
	}
	for _, c := range []struct {
		name      string
		got, want any
	}{
		{"Kind", r.Kind, asked.Kind}, {"Key", r.Key, asked.Key}, {"Party", r.Party, asked.Party},
		{"Currency", r.Currency, asked.Currency}, {"Amount", r.Amount, asked.Amount}, {"Attempt", r.Attempt, asked.Attempt},
	} {
		if c.got != c.want {
			t.Errorf("Step(%d) of %v: the request's %s is %v, want %v", now, p, c.name, c.got, c.want)
		}
	}
	same(t, fmt.Sprint("Step ", now, " of ", p), q, want)
}

// same holds a payout against another one, field by field.
func same(t *testing.T, of string, got, want Payout) {
	t.Helper()
	for _, c := range []struct {
		name      string
		got, want any
	}{
		{"Key", got.Key, want.Key}, {"Party", got.Party, want.Party}, {"Currency", got.Currency, want.Currency},
		{"Amount", got.Amount, want.Amount}, {"State", got.State, want.State}, {"Next", got.Next, want.Next},
		{"Tries", got.Tries, want.Tries}, {"Attempt", got.Attempt, want.Attempt},
	} {
		if c.got != c.want {
			t.Errorf("%s: %s is %v, want %v", of, c.name, c.got, c.want)
		}
	}
	if t.Failed() { // of a great many cases the first one that fails says enough
		t.FailNow()
	}
}

// stepOf is what the chapter says of a step, by a State's row.
func stepOf(w row, p Payout, now int64) (Payout, api.Request, bool) {
	if w.over || now < p.Next {
		return p, api.Request{}, false
	}
	q := Payout{p.Key, p.Party, p.Currency, p.Amount, w.behind, now + 2, p.Tries, p.Attempt + 1}
	if w.off {
		q.Next += waits(p.Tries)
		q.Tries++
	}
	return q, api.Request{Kind: w.kind, Key: p.Key, Party: p.Party, Currency: p.Currency, Amount: p.Amount, Attempt: p.Attempt + 1}, true
}

// hearOf is what the chapter says of a reply, by a State's row.
func hearOf(w row, p Payout, kind string, attempt, now int64) (Payout, bool) {
	q := p
	switch {
	case w.over:
		return p, false
	case kind == "accepted":
		q.State = "paid"
	case kind == "declined":
		q.State = "back"
	case kind == "unknown" && w.state == "queried" && attempt == p.Attempt:
		q.State, q.Next, q.Tries = "ready", now+waits(p.Tries), p.Tries+1
	default:
		return p, false
	}
	return q, true
}

// wantHear holds a reply's two answers, field by field.
func wantHear(t *testing.T, p Payout, kind string, attempt, now int64, want Payout, changed bool) {
	t.Helper()
	before := p
	q, ok := p.Hear(kind, attempt, now)
	if p != before {
		t.Fatalf("Hear(%q, %d, %d) changed %v to %v", kind, attempt, now, before, p)
	}
	if ok != changed {
		t.Errorf("Hear(%q, %d, %d) of %v: %v, want %v", kind, attempt, now, p, ok, changed)
	}
	same(t, fmt.Sprintf("Hear(%q, %d, %d) of %v", kind, attempt, now, p), q, want)
}

// kinds are those of replies, the empty one, and others that are none's.
func kinds() []string {
	return []string{"accepted", "declined", "unknown", "", "Accepted", "ACCEPTED", "accept", "accepted ", " accepted", "accepted\x00", "acceptedaccepted",
		"Declined", "decline", "declined ", "Unknown", "unknow", "unknown ", "paid", "back", "ready", "asked", "queried", "pay", "query", "\xff"}
}

// P17.1: the constants are the chapter's own.
func TestConstants(t *testing.T) {
	got := [5]string{Ready, Asked, Queried, Paid, Back}
	if got != [5]string{"ready", "asked", "queried", "paid", "back"} {
		t.Error(got)
	}
}

// P17.1: only one that is paid or back is over, whatever its other fields are.
func TestOver(t *testing.T) {
	for _, w := range rows() {
		for _, n := range numbers() {
			for _, p := range payouts(w.state, n, -n, n) {
				if p.Over() != w.over {
					t.Fatalf("Over() of %v = %v", p, p.Over())
				}
			}
		}
	}
	if (Payout{}).Over() {
		t.Error("the zero one is over")
	}
}

// P17.1, Step of each of the chapter's States, written out.
func TestStepWrittenOut(t *testing.T) {
	of := func(state string, next, tries, attempt int64) Payout {
		return Payout{"k", "ann", "EUR", 9, state, next, tries, attempt}
	}
	asked := func(kind string, attempt int64) api.Request {
		return api.Request{Kind: kind, Key: "k", Party: "ann", Currency: "EUR", Amount: 9, Attempt: attempt}
	}
	for _, c := range []struct {
		p     Payout
		now   int64
		want  Payout
		asked api.Request
	}{
		{of("ready", 5, 0, 0), 5, of("asked", 7, 0, 1), asked("pay", 1)},
		{of("ready", 5, 0, 0), 6, of("asked", 8, 0, 1), asked("pay", 1)},
		{of("ready", 5, 0, 0), 50, of("asked", 52, 0, 1), asked("pay", 1)},
		{of("ready", 5, 3, 6), 5, of("asked", 7, 3, 7), asked("pay", 7)},
		{of("asked", 7, 0, 1), 7, of("queried", 9, 0, 2), asked("query", 2)},
		{of("asked", 7, 0, 1), 20, of("queried", 22, 0, 2), asked("query", 2)},
		{of("asked", 7, 4, 1), 7, of("queried", 9, 4, 2), asked("query", 2)},
		{of("queried", 9, 0, 2), 9, of("queried", 12, 1, 3), asked("query", 3)},
		{of("queried", 9, 1, 2), 9, of("queried", 13, 2, 3), asked("query", 3)},
		{of("queried", 9, 2, 2), 9, of("queried", 15, 3, 3), asked("query", 3)},
		{of("queried", 9, 3, 2), 9, of("queried", 19, 4, 3), asked("query", 3)},
		{of("queried", 9, 40, 2), 9, of("queried", 19, 41, 3), asked("query", 3)},
		{of("queried", 9, -1, 2), 9, of("queried", 12, 0, 3), asked("query", 3)},
		{of("queried", 9, -40, 2), 9, of("queried", 12, -39, 3), asked("query", 3)},
		{of("queried", 9, 1, 2), 30, of("queried", 34, 2, 3), asked("query", 3)},
		{of("", 0, 0, 0), 0, of("", 3, 1, 1), asked("query", 1)},
		{of("lost", 0, 1, -1), 4, of("lost", 8, 2, 0), asked("query", 0)},
		{of("Paid", 0, 2, -2), 4, of("Paid", 10, 3, -1), asked("query", -1)},
		{of("ready", -5, 0, 0), -5, of("asked", -3, 0, 1), asked("pay", 1)},
		{of("asked", -5, 0, 0), -1, of("queried", 1, 0, 1), asked("query", 1)},
		{of("queried", -5, 0, 0), -5, of("queried", -2, 1, 1), asked("query", 1)},
	} {
		wantStep(t, c.p, c.now, c.want, c.asked, true)
		wantStep(t, c.p, c.p.Next-1, c.p, api.Request{}, false)
	}
}

// P17.1, Step: one that is over asks nothing, at no tick, and stays as it is.
func TestStepOver(t *testing.T) {
	for _, state := range []string{Paid, Back} {
		for _, next := range numbers() {
			for _, now := range numbers() {
				for _, p := range payouts(state, next, 1, 2) {
					wantStep(t, p, now, p, api.Request{}, false)
				}
			}
		}
	}
}

// P17.1, Step: of each State, below Next, at Next and above it, with each number of tries, against the rows.
func TestStepByRows(t *testing.T) {
	for _, w := range rows() {
		for _, next := range []int64{0, 1, 8, 1000, -1, -8, -1000} {
			for _, ahead := range []int64{-1000, -9, -8, -2, -1, 0, 1, 2, 3, 9, 1000} {
				for tries := int64(-3); tries <= 6; tries++ {
					for _, p := range payouts(w.state, next, tries, tries*2) {
						q, r, is := stepOf(w, p, next+ahead)
						wantStep(t, p, next+ahead, q, r, is)
					}
				}
			}
		}
	}
}

// P17.1, Step: numbers at the edges, against the rows.
func TestStepEdges(t *testing.T) {
	for _, w := range rows()[:6] {
		for _, next := range numbers() {
			for _, now := range numbers() {
				for _, n := range numbers() {
					for _, p := range []Payout{
						{"k", "ann", "EUR", 9, w.state, next, n, 4},
						{"k", "ann", "EUR", 9, w.state, next, 4, n},
						{"k", "ann", "EUR", n, w.state, next, n, n},
					} {
						q, r, is := stepOf(w, p, now)
						wantStep(t, p, now, q, r, is)
					}
				}
			}
		}
	}
}

// P17.1, Step: how long is waited is what layer 15 tells of the tries.
func TestStepWaits(t *testing.T) {
	for _, w := range rows() {
		if w.over {
			continue
		}
		tries := numbers()
		for n := int64(-5); n <= 70; n++ {
			tries = append(tries, n)
		}
		for _, n := range tries {
			p, _, is := Payout{Key: "k", State: w.state, Next: 3, Tries: n}.Step(4)
			next, more := int64(4+api.Wait), int64(0)
			if w.off {
				next, more = next+dial.Backoff(n), 1
			}
			if !is || p.Next != next || p.Tries != n+more {
				t.Fatalf("%q, %d tries: %v, want %d, %d", w.state, n, p, next, n+more)
			}
		}
	}
}

// P17.1, Hear, written out.
func TestHearWrittenOut(t *testing.T) {
	of := func(state string, next, tries int64) Payout {
		return Payout{"k", "ann", "EUR", 9, state, next, tries, 4}
	}
	for _, c := range []struct {
		p       Payout
		kind    string
		attempt int64
		now     int64
		want    Payout
		changed bool
	}{
		{of("ready", 5, 1), "accepted", 4, 3, of("paid", 5, 1), true},
		{of("asked", 5, 1), "accepted", 1, 3, of("paid", 5, 1), true},
		{of("queried", 5, 1), "accepted", 99, 3, of("paid", 5, 1), true},
		{of("", 5, 1), "accepted", -1, -3, of("paid", 5, 1), true},
		{of("ready", 5, 1), "declined", 4, 3, of("back", 5, 1), true},
		{of("asked", 5, 1), "declined", 1, 3, of("back", 5, 1), true},
		{of("queried", 5, 1), "declined", 99, 3, of("back", 5, 1), true},
		{of("Paid", 5, 1), "declined", -1, -3, of("back", 5, 1), true},
		{of("queried", 5, 0), "unknown", 4, 3, of("ready", 4, 1), true},
		{of("queried", 5, 1), "unknown", 4, 3, of("ready", 5, 2), true},
		{of("queried", 5, 2), "unknown", 4, 3, of("ready", 7, 3), true},
		{of("queried", 5, 3), "unknown", 4, 3, of("ready", 11, 4), true},
		{of("queried", 5, 30), "unknown", 4, 3, of("ready", 11, 31), true},
		{of("queried", 5, -1), "unknown", 4, 3, of("ready", 4, 0), true},
		{of("queried", 5, -30), "unknown", 4, 3, of("ready", 4, -29), true},
		{of("queried", 5, 1), "unknown", 4, -9, of("ready", -7, 2), true},
		{of("queried", 500, 1), "unknown", 4, 3, of("ready", 5, 2), true},
		{of("queried", 5, 1), "unknown", 3, 3, of("queried", 5, 1), false},
		{of("queried", 5, 1), "unknown", 5, 3, of("queried", 5, 1), false},
		{of("queried", 5, 1), "unknown", -4, 3, of("queried", 5, 1), false},
		{of("ready", 5, 1), "unknown", 4, 3, of("ready", 5, 1), false},
		{of("asked", 5, 1), "unknown", 4, 3, of("asked", 5, 1), false},
		{of("", 5, 1), "unknown", 4, 3, of("", 5, 1), false},
		{of("Queried", 5, 1), "unknown", 4, 3, of("Queried", 5, 1), false},
		{of("queried", 5, 1), "", 4, 3, of("queried", 5, 1), false},
		{of("queried", 5, 1), "Accepted", 4, 3, of("queried", 5, 1), false},
		{of("queried", 5, 1), "paid", 4, 3, of("queried", 5, 1), false},
		{of("paid", 5, 1), "accepted", 4, 3, of("paid", 5, 1), false},
		{of("paid", 5, 1), "declined", 4, 3, of("paid", 5, 1), false},
		{of("paid", 5, 1), "unknown", 4, 3, of("paid", 5, 1), false},
		{of("back", 5, 1), "accepted", 4, 3, of("back", 5, 1), false},
		{of("back", 5, 1), "declined", 4, 3, of("back", 5, 1), false},
		{of("back", 5, 1), "unknown", 4, 3, of("back", 5, 1), false},
	} {
		wantHear(t, c.p, c.kind, c.attempt, c.now, c.want, c.changed)
	}
}

// P17.1, Hear: each kind, for each State, of the payout's attempt and of those next to it, at each tick, against the rows.
func TestHearByRows(t *testing.T) {
	for _, w := range rows() {
		for _, kind := range kinds() {
			for _, attempt := range []int64{0, 1, 7, -1} {
				for _, d := range []int64{-2, -1, 0, 1, 2} {
					for _, now := range []int64{-100, -1, 0, 1, 6, 7, 8, 100} {
						for tries := int64(-2); tries <= 5; tries++ {
							p := payouts(w.state, 7, tries, attempt)[(tries+2)%5]
							q, changed := hearOf(w, p, kind, attempt+d, now)
							wantHear(t, p, kind, attempt+d, now, q, changed)
						}
					}
				}
			}
		}
	}
}

// P17.1, Hear: numbers at the edges, against the rows.
func TestHearEdges(t *testing.T) {
	for _, w := range rows()[:6] {
		for _, kind := range kinds()[:5] {
			for _, n := range numbers() {
				for _, now := range numbers() {
					for _, p := range []Payout{
						{"k", "ann", "EUR", 9, w.state, n, 2, now},
						{"k", "ann", "EUR", 9, w.state, 5, n, now},
						{"k", "ann", "EUR", n, w.state, n, n, now},
					} {
						for _, attempt := range []int64{now, now - 1, now + 1, -now, n} {
							q, changed := hearOf(w, p, kind, attempt, now)
							wantHear(t, p, kind, attempt, now, q, changed)
						}
					}
				}
			}
		}
	}
}

// P17.1, Hear: how long is waited is what layer 15 tells of the tries.
func TestHearWaits(t *testing.T) {
	for n := int64(-5); n <= 70; n++ {
		p, changed := Payout{State: Queried, Next: 99, Tries: n, Attempt: 3}.Hear(gate.Unknown, 3, 10)
		if !changed || p.State != Ready || p.Next != 10+dial.Backoff(n) || p.Tries != n+1 || p.Attempt != 3 {
			t.Errorf("%d tries: %v, %v", n, p, changed)
		}
	}
}

// P17.1: whether a reply changed something is whether the payout behind it is another one.
func TestChangedIsAnother(t *testing.T) {
	for _, w := range rows() {
		for _, kind := range kinds() {
			for _, attempt := range []int64{1, 2, 3} {
				for _, now := range []int64{-8, 0, 1, 2, 3, 4} {
					p := Payout{Key: "k", State: w.state, Next: 2, Attempt: 2}
					if q, changed := p.Hear(kind, attempt, now); changed != (q != p) {
						t.Fatal(p, kind, attempt, now, q, changed)
					}
				}
			}
		}
	}
}

// P1: no call panics, at no number at all.
func TestAnyNumbers(t *testing.T) {
	l := append(numbers(), math.MaxInt64, math.MaxInt64-1, math.MinInt64, math.MinInt64+1)
	for _, w := range rows()[:6] {
		for _, next := range l {
			for _, now := range l {
				for _, n := range l {
					p := Payout{Key: "k", Amount: n, State: w.state, Next: next, Tries: n, Attempt: n}
					_, r, is := p.Step(now)
					if is == (w.over || next > now) || !is && r != (api.Request{}) {
						t.Fatal(p, now, r, is)
					}
					p.Hear(gate.Unknown, n, now)
				}
			}
		}
	}
}

// P2: asked again, behind other calls, a payout answers the same.
func TestToldAgain(t *testing.T) {
	r := rand.New(rand.NewPCG(17, 1))
	type told struct {
		p       Payout
		r       api.Request
		is      bool
		q       Payout
		changed bool
		over    bool
	}
	tell := func(p Payout, now int64) told {
		var x told
		x.p, x.r, x.is = p.Step(now)
		x.q, x.changed = p.Hear(kinds()[now%25], p.Attempt, now)
		x.over = p.Over()
		return x
	}
	var l []Payout
	var first []told
	for i := range 2000 {
		p := payouts(rows()[r.IntN(8)].state, r.Int64N(40), r.Int64N(6)-1, r.Int64N(9))[r.IntN(5)]
		l, first = append(l, p), append(first, tell(p, int64(i%50)))
	}
	for _, i := range r.Perm(len(l)) {
		if again := tell(l[i], int64(i%50)); again != first[i] {
			t.Fatal(l[i], first[i], again)
		}
	}
}

// The chapter's example, and what comes behind it, as long as nothing is told.
func TestExample(t *testing.T) {
	p := Payout{Key: "k", Party: "ann", Currency: "EUR", Amount: 9, State: Ready, Next: 5}
	type at struct {
		now         int64
		kind, state string
	}
	var got []at
	for now := int64(0); now < 60; now++ {
		q, r, is := p.Step(now)
		if p = q; is {
			got = append(got, at{now, r.Kind, p.State})
		}
	}
	want := []at{{5, "pay", Asked}, {7, "query", Queried}, {9, "query", Queried}, {12, "query", Queried}, {16, "query", Queried}, {22, "query", Queried}, {32, "query", Queried}, {42, "query", Queried}, {52, "query", Queried}}
	if fmt.Sprint(got) != fmt.Sprint(want) {
		t.Error(got, want)
	}
}
