package script

import (
	"fmt"
	"slices"
	"strings"
	"testing"

	"souk/api"
	"souk/plan"
)

// P23.1: what balances, payouts and totals tell.

// story is one by the second plan: it brings balances of each kind, and a payout in each state.
func story(t *testing.T) *pair {
	t.Helper()
	p := begin(t, 600, "tier 0 10%; tax 20%; reserve 25% 40;")
	p.lines(t, "sale s1 EUR - 1000 ann:1", "sale s2 EUR - 2000 bob:1 cy:1", "sale s3 USD - 500 ann:1", "sale s4 EUR - 900 dee:1")
	p.ticks(t, 7)
	// The payouts of ann in EUR and in USD, of bob, cy and dee.
	p.lines(t, "choose 1 0 3 2 0", "tick", "tick", "choose 0", "tick", "tick")
	p.lines(t, "refund r1 s1 900", "sale s5 GBP - 400 a/b:1", "sale s6 GBP - 100 eve:1", "hold h1 bob")
	return p
}

func TestBalances(t *testing.T) {
	p := begin(t, 100, tenth)
	p.expect(t, "balances")
	p.expect(t, "sale s1 EUR - 1000 ann:1", "sale 100 heard 0")
	p.expect(t, "balances", "available ann EUR 900", "clearing - EUR -1000", "fee - EUR 100")
	p.expect(t, "sale s2 AAA - 10 a:1 b:1", "sale 1 heard 0")
	p.expect(t, "balances", "available a AAA 5", "available ann EUR 900", "available b AAA 4", "clearing - AAA -10", "clearing - EUR -1000", "fee - AAA 1", "fee - EUR 100")
	p.expect(t, "refund r1 s1 1000", "refund 900 heard 0")
	p.expect(t, "refund r2 s2 10", "refund 9 heard 0")
	p.expect(t, "balances")

	story(t).expect(t, "balances",
		"available a/b GBP 264", "available bob EUR 660", "available eve GBP 66",
		"clearing - EUR -3000", "clearing - GBP -500", "clearing - USD -500",
		"debt ann EUR -792",
		"fee - EUR 300", "fee - GBP 50", "fee - USD 50",
		"flight ann USD 330", "flight cy EUR 660", "flight dee EUR 594",
		"paid ann EUR 660",
		"reserve a/b GBP 88", "reserve ann EUR 220", "reserve ann USD 110", "reserve bob EUR 220", "reserve cy EUR 220", "reserve dee EUR 198", "reserve eve GBP 22",
		"tax - EUR 60", "tax - GBP 10", "tax - USD 10",
	)
}

// A party may be named as the sign of none begins, or as a kind is.
func TestBalancesOfOddNames(t *testing.T) {
	p := begin(t, 100, tenth)
	p.expect(t, "sale s1 EUR - 4000 --:1 fee:1 clearing:1 0:1", "sale 400 heard 0")
	p.expect(t, "balances", "available -- EUR 900", "available 0 EUR 900", "available clearing EUR 900", "available fee EUR 900", "clearing - EUR -4000", "fee - EUR 400")
}

func TestPayouts(t *testing.T) {
	p := begin(t, 100, tenth)
	p.expect(t, "payouts")
	p.expect(t, "sale s1 EUR - 1000 ann:1", "sale 100 heard 0")
	p.ticks(t, 7)
	p.expect(t, "payouts")
	p.lines(t, "choose 0", "tick")
	p.expect(t, "payouts", "1/EUR/ann 900 asked")
	p.lines(t, "tick", "choose 0", "tick")
	p.expect(t, "payouts", "1/EUR/ann 900 queried")
	p.lines(t, "tick", "tick")
	p.expect(t, "payouts", "1/EUR/ann 900 ready")
	p.lines(t, "tick", "choose 3", "tick")
	p.expect(t, "payouts", "1/EUR/ann 900 back")
	p.ticks(t, 2)
	p.expect(t, "payouts", "1/EUR/ann 900 back", "2/EUR/ann 900 paid")

	p = story(t)
	p.expect(t, "payouts", "1/EUR/ann 660 paid", "1/USD/ann 330 queried", "1/EUR/bob 660 back", "1/EUR/cy 660 queried", "1/EUR/dee 594 queried")
	p.expect(t, "choose 6 1")
	p.ticks(t, 4)
	p.expect(t, "payouts", "1/EUR/ann 660 paid", "1/USD/ann 330 ready", "1/EUR/bob 660 back", "1/EUR/cy 660 paid", "1/EUR/dee 594 ready")
	p.ticks(t, 4)
	p.expect(t, "payouts", "1/EUR/ann 660 paid", "1/USD/ann 330 paid", "1/EUR/bob 660 back", "1/EUR/cy 660 paid", "1/EUR/dee 594 paid", "2/GBP/a/b 264 paid")
}

func TestTotals(t *testing.T) {
	const none = "net 0 fee 0 tax 0 paid 0 take - even"
	p := begin(t, 100, tenth)
	for _, word := range []string{"EUR", "", "-", "eur", "totals", "\t", "\x00\xff", "balances", "EUR-"} {
		p.expect(t, "totals "+word, none)
	}
	p.expect(t, "sale s1 EUR - 1000 ann:1", "sale 100 heard 0")
	p.expect(t, "totals EUR", "net 1000 fee 100 tax 0 paid 0 take 10.00% even")
	for _, word := range []string{"", "-", "eur", "EU", "EURO", "EUR\t", "\tEUR", "USD", "ann", "clearing"} {
		p.expect(t, "totals "+word, none)
	}
	p.fails(t, "totals", api.ErrForm)
	p.fails(t, "totals EUR ", api.ErrForm)
	p.fails(t, "totals  EUR", api.ErrForm)
	p.fails(t, "totals EUR USD", api.ErrForm)
	p.ticks(t, 8)
	p.expect(t, "totals EUR", "net 1000 fee 100 tax 0 paid 900 take 10.00% even")
	p.expect(t, "refund r1 s1 5", "refund 4 heard 0")
	p.expect(t, "totals EUR", "net 995 fee 99 tax 0 paid 900 take 9.95% even")
	p.expect(t, "refund r2 s1 995", "refund 896 heard 0")
	p.expect(t, "totals EUR", "net 0 fee 0 tax 0 paid 900 take - even")
	p.expect(t, "balances", "debt ann EUR -900", "paid ann EUR 900")

	p = story(t)
	p.expect(t, "totals EUR", "net 3000 fee 300 tax 60 paid 660 take 10.00% even")
	p.expect(t, "totals USD", "net 500 fee 50 tax 10 paid 0 take 10.00% even")
	p.expect(t, "totals GBP", "net 500 fee 50 tax 10 paid 0 take 10.00% even")
	p.expect(t, "totals JPY", none)
}

func TestTakes(t *testing.T) {
	for _, x := range []struct{ plan, sale, want string }{
		{"tier 0 0%;", "3", "net 3 fee 0 tax 0 paid 0 take 0.00% even"},
		{"tier 0 100%;", "3", "net 3 fee 3 tax 0 paid 0 take 100.00% even"},
		{"tier 0 0%; minimum 1;", "3", "net 3 fee 1 tax 0 paid 0 take 33.33% even"},
		{"tier 0 0%; minimum 2;", "3", "net 3 fee 2 tax 0 paid 0 take 66.67% even"},
		{"tier 0 0%; minimum 1;", "1000000", "net 1000000 fee 1 tax 0 paid 0 take 0.00% even"},
		{"tier 0 0%; minimum 2; tax 50%;", "3", "net 3 fee 2 tax 1 paid 0 take 66.67% even"},
	} {
		p := begin(t, 20, x.plan)
		p.lines(t, "sale s1 EUR - "+x.sale+" ann:1")
		p.expect(t, "totals EUR", x.want)
	}
}

// What is only read changes nothing, and is told again.
func TestTellingChangesNothing(t *testing.T) {
	for _, s := range []string{"balances", "payouts", "totals EUR", "totals ", "totals x"} {
		p := story(t)
		first, e := p.line(t, s)
		own := slices.Clone(first)
		again, f := p.line(t, s)
		if e != api.OK || f != api.OK || !slices.Equal(first, again) {
			t.Fatalf("%s: %q %d, and %q %d", s, first, e, again, f)
		}
		// Neither is what was told shared.
		for i := range first {
			first[i] = "changed"
		}
		if more, _ := p.line(t, s); !slices.Equal(again, own) || !slices.Equal(more, own) {
			t.Fatalf("%s: %q, %q, not %q", s, again, more, own)
		}
	}
}

// P23.1: what commands tell.

func TestCommands(t *testing.T) {
	p := begin(t, 200, tenth)
	for _, x := range []struct {
		ahead, line, want string
		e                 api.Errno
	}{
		{line: "sale s1 EUR - 1000 ann:1", want: "sale 100 heard 0"},
		{line: "sale s1 EUR - 1000 ann:1", want: "sale 100 heard 0"}, // told again
		{line: "tick", want: "tick 0 heard 0"},
		{line: "sale s2 EUR books 2000 ann:1 bob:1", want: "sale 200 heard 0"},
		{line: "sale s1 USD - 7 bob:1", want: "sale 100 heard 0"},
		{line: "refund s1 s2 5", want: "sale 100 heard 0"}, // told again
		{line: "refund r1 no 5", e: api.ErrNone},
		{line: "refund r1 s1 1001", e: api.ErrMore},
		{line: "refund r1 s1 100", want: "refund 90 heard 0"},
		{line: "refund r1 s1 1001", want: "refund 90 heard 0"},
		{line: "chargeback c1 no 5", e: api.ErrNone},
		{line: "chargeback c1 s2 2001", e: api.ErrMore},
		{line: "chargeback c1 s2 1000", want: "chargeback 900 heard 0"},
		{line: "reverse v1 no", e: api.ErrNone},
		{line: "reverse v1 r1", e: api.ErrNone},
		{line: "reverse v1 c1", want: "reverse 1000 heard 0"},
		{line: "reverse v2 c1", e: api.ErrState},
		{line: "reverse v1 c1", want: "reverse 1000 heard 0"},
		{line: "hold h1 cy", want: "hold 1 heard 0"},
		{line: "hold h2 ann", want: "hold 2 heard 0"},
		{line: "free f1 ann", want: "free 1 heard 0"},
		{line: "free f2 ann", want: "free 1 heard 0"},
		{line: "reply 1/EUR/ann accepted 1", e: api.ErrNone},
		{line: "tick", want: "tick 0 heard 0"}, {line: "tick", want: "tick 0 heard 0"}, {line: "tick", want: "tick 0 heard 0"},
		{line: "tick", want: "tick 0 heard 0"}, {line: "tick", want: "tick 0 heard 0"}, {line: "tick", want: "tick 0 heard 0"},
		{ahead: "choose 5 6", line: "tick", want: "tick 2 heard 2"},
		{line: "reply 1/EUR/ann accepted 1", want: "reply 0 heard 0"},
		{ahead: "late 0", line: "refund r2 no 5", e: api.ErrNone},
		{ahead: "late 0", line: "tick", want: "tick 0 heard 0"},
		{line: "reply 1/EUR/bob declined 1", want: "reply 0 heard 0"},
		{ahead: "fail 0", line: "hold h3 ann", e: api.ErrCrash},
		{line: "hold h3 ann", want: "hold 2 heard 0"},
		{ahead: "fail 1 64", line: "hold h4 bob", e: api.ErrCrash},
		{line: "hold h4 dee", want: "hold 3 heard 0"}, // it stood
		{ahead: "fail 0", line: "hold h4 dee", want: "hold 3 heard 0"},
	} {
		if x.ahead != "" {
			p.expect(t, x.ahead)
		}
		if x.e != api.OK {
			p.fails(t, x.line, x.e)
			continue
		}
		p.expect(t, x.line, x.want)
	}
	p.expect(t, "balances", "clearing - EUR -2900", "fee - EUR 290", "paid ann EUR 1710", "paid bob EUR 900")
}

func TestErrFull(t *testing.T) {
	p := begin(t, 3, tenth)
	p.ticks(t, 2)
	for range 3 {
		p.expect(t, "choose 0")
		p.fails(t, "tick", api.ErrFull)
	}
	p.fails(t, "sale s1 EUR - 1000 ann:1", api.ErrFull)
	p.fails(t, "refund r1 s1 5", api.ErrNone)
	p.expect(t, "balances")
}

// The power fails where the command was done already: what it was told is told, and that.
func TestCrashed(t *testing.T) {
	for n := range 14 {
		p := sold(t, 200, "ann", "bob")
		p.expect(t, fmt.Sprint("fail ", n))
		switch told, e := p.line(t, "tick"); {
		case n < 2:
			if e != api.ErrCrash || len(told) != 0 {
				t.Fatal(n, told, e)
			}
		case n < 6:
			if e != api.OK || !slices.Equal(told, []string{fmt.Sprintf("tick 2 heard %d crashed", (n-2)/2)}) {
				t.Fatal(n, told, e)
			}
		default:
			if e != api.OK || !slices.Equal(told, []string{"tick 2 heard 2"}) {
				t.Fatal(n, told, e)
			}
		}
		p.ticks(t, 30)
		p.expect(t, "payouts", "1/EUR/ann 180 paid", "1/EUR/bob 180 paid")
	}
	// Of an event that was told already, the power fails in what is heard ahead alone.
	p := waits(t, 200, "ann")
	p.lines(t, "late 0", "fail 1 64")
	p.fails(t, "sale s0 EUR - 200 ann:1", api.ErrCrash)
	p.expect(t, "payouts", "1/EUR/ann 180 paid")
}

// P23.1: Lines.

func TestLines(t *testing.T) {
	l := []string{"choose 1 0", "sale s1 EUR - 1000 ann:1", "", "what", "balances", "totals EUR", "refund r1 no 5", "late 5000", "tick", "tick", "tick", "tick", "tick", "tick", "tick", "choose 6", "tick", "payouts", "fail 0 65", "fail 0 64", "tick", "late 0", "tick", "payouts", "totals", "totals "}
	want := [][]string{nil, {"sale 100 heard 0"}, nil, nil, {"available ann EUR 900", "clearing - EUR -1000", "fee - EUR 100"}, {"net 1000 fee 100 tax 0 paid 0 take 10.00% even"}, nil, nil,
		{"tick 0 heard 0"}, {"tick 0 heard 0"}, {"tick 0 heard 0"}, {"tick 0 heard 0"}, {"tick 0 heard 0"}, {"tick 0 heard 0"}, {"tick 0 heard 0"}, nil, {"tick 1 heard 0"}, {"1/EUR/ann 900 asked"}, nil, nil, nil, nil, {"tick 0 heard 1"}, {"1/EUR/ann 900 paid"}, nil, {"net 0 fee 0 tax 0 paid 0 take - even"}}
	errs := make([]api.Errno, len(l))
	errs[2], errs[3], errs[6], errs[7], errs[18], errs[20], errs[24] = api.ErrForm, api.ErrForm, api.ErrNone, api.ErrForm, api.ErrForm, api.ErrCrash, api.ErrForm
	told, wrong := opened(t, 100, tenth).Lines(l...)
	if !slices.EqualFunc(told, want, slices.Equal[[]string]) || !slices.Equal(wrong, errs) {
		t.Fatalf("%q %d", told, wrong)
	}
}

func TestLinesOfFew(t *testing.T) {
	p := begin(t, 100, tenth)
	for _, l := range [][]string{nil, {}} {
		if told, wrong := p.d.Lines(l...); len(told) != 0 || len(wrong) != 0 {
			t.Fatal(told, wrong)
		}
		p.alike(t, "")
	}
	if told, wrong := p.d.Lines(); len(told) != 0 || len(wrong) != 0 {
		t.Fatal(told, wrong)
	}
	for _, s := range []string{"", "tick", "choose 1", "choose 256", "balances", "sale s1 EUR - 1000 ann:1", "balances", "refund r1 no 1"} {
		want, e := p.model(s)
		told, wrong := p.d.Lines(s)
		if len(told) != 1 || !slices.Equal(told[0], want) || !slices.Equal(wrong, []api.Errno{e}) {
			t.Fatalf("Lines(%q): %q %d, not %q %d", s, told, wrong, want, e)
		}
		p.alike(t, s)
	}
}

// Lines are done one behind the other, as Line does each; and what is handed in stays, and what lies behind it is not read.
func TestLinesAreLineByLine(t *testing.T) {
	all := append(append(slices.Clone(rightLines), wrongLines...), rightLines...)
	for _, n := range []int{1, 2, 3, 10, 50, len(all)} {
		p := begin(t, 600, tenth)
		for l := range slices.Chunk(all, n) {
			own := slices.Clone(l)
			room := append(slices.Clone(l), "tick", "choose 3")
			told, wrong := p.d.Lines(room[:len(l)]...)
			if !slices.Equal(room, append(own, "tick", "choose 3")) || len(told) != len(l) || len(wrong) != len(l) {
				t.Fatalf("Lines(%q): %q %d", l, told, wrong)
			}
			for i, s := range l {
				if want, e := p.model(s); !slices.Equal(told[i], want) || wrong[i] != e {
					t.Fatalf("%q: %q %d, not %q %d", s, told[i], wrong[i], want, e)
				}
			}
			p.alike(t, "some")
		}
	}
}

// No two lists of one answer share anything.
func TestLinesAreApart(t *testing.T) {
	p := story(t)
	want, _ := p.line(t, "balances")
	told, _ := p.d.Lines("balances", "balances", "totals EUR")
	told[0][0], told[2][0] = "changed", "changed"
	_ = append(told[0], "more")
	if !slices.Equal(told[1], want) {
		t.Fatal(told[1])
	}
	p.expect(t, "balances", want...)
}

// P23.1: Plan.

func TestPlan(t *testing.T) {
	for _, x := range []struct{ text, want string }{
		{"", ""},
		{" \n\t", ""},
		{"tier 0 10%;", "tier 0 10%;\n"},
		{"tier 0 1.5%;cap 5;", "tier 0 1.50%;\ncap 5;\n"},
		{" tier\n0\t2.9% ; cap 500 ; ", "tier 0 2.90%;\ncap 500;\n"},
		{"tier 0 2.9%; cap 500;", "tier 0 2.90%;\ncap 500;\n"},
		{"cap 007;", "cap 7;\n"},
		{reserved, "tier 0 10%;\ntier 5000 5.50%;\ncap 2000;\ncategory books 2%;\ntax 20%;\nreserve 25% 4;\n"},
		{"minimum 3; tier 5 101%; tier 5 0.05%;", "minimum 3;\ntier 5 101%;\ntier 5 0.05%;\n"}, // it isn't sound
		{strings.Repeat("cap 1;", 40), strings.Repeat("cap 1;\n", 40)},
	} {
		got, e := Plan(x.text)
		if e != api.OK || got != x.want {
			t.Errorf("Plan(%q): %q %d", x.text, got, e)
		}
		if again, e := Plan(got); e != api.OK || again != got {
			t.Errorf("Plan(%q): %q %d", got, again, e)
		}
	}
}

func TestPlanOfErrors(t *testing.T) {
	for _, x := range []struct {
		text string
		want api.Errno
	}{
		{"tier", api.ErrForm},
		{"tier 0 10%", api.ErrForm},
		{";", api.ErrForm},
		{"tier 0 10%;;", api.ErrForm},
		{"tier 10% 0;", api.ErrForm},
		{"bid 0 10%;", api.ErrForm},
		{"Tier 0 10%;", api.ErrForm},
		{"tier 0 1.555%;", api.ErrForm},
		{"tier 0 10%;\x00", api.ErrForm},
		{"\xff", api.ErrForm},
		{"cap 5; cap -5;", api.ErrForm},
		{"cap 12345678901234567;", api.ErrOver},
		{"tier 0 1000001%;", api.ErrOver},
		{strings.Repeat("a", 21), api.ErrOver},
		{strings.Repeat("cap 1;", 41), api.ErrOver},
	} {
		got, e := Plan(x.text)
		if _, _, f := plan.Parse(x.text); e != x.want || e != f || got != "" {
			t.Errorf("Plan(%.40q): %q %d, not %d, of layer 9 %d", x.text, got, e, x.want, f)
		}
	}
}
