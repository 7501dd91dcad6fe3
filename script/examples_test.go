package script

import (
	"slices"
	"strings"
	"testing"

	"souk/api"
)

// The examples, by lines.

func TestExample(t *testing.T) {
	d := opened(t, 100, "tier 0 10%;")
	if told, e := d.Line("sale s EUR - 1000 ann:1"); e != api.OK || !slices.Equal(told, []string{"sale 100 heard 0"}) {
		t.Fatal(told, e)
	}
}

// Ten examples of the whole: lines, and what the last one of them tells.
func TestTenExamples(t *testing.T) {
	tick := func(n int) []string { return slices.Repeat([]string{"tick"}, n) }
	for i, x := range []struct {
		plan  string
		lines []string
		want  []string
	}{
		// Split of 10 by 1, 1, 1.
		{"tier 0 0%;", []string{"sale s1 EUR - 10 ann:1 bob:1 cy:1", "balances"}, []string{"available ann EUR 4", "available bob EUR 3", "available cy EUR 3", "clearing - EUR -10"}},
		// Text of Ratio(1, 3).
		{"tier 0 0%; minimum 1;", []string{"sale s1 EUR - 3 ann:1", "totals EUR"}, []string{"net 3 fee 1 tax 0 paid 0 take 33.33% even"}},
		// A write, and a restart with 2: two bytes are no record.
		{"tier 0 10%;", []string{"fail 1 2", "sale s1 EUR - 1000 ann:1", "balances"}, nil},
		// Of 1000, by tier 0 10%, cap 50, tax 20%.
		{"tier 0 10%; cap 50; tax 20%;", []string{"sale s1 EUR - 1000 ann:1", "balances"}, []string{"available ann EUR 940", "clearing - EUR -1000", "fee - EUR 50", "tax - EUR 10"}},
		// 100 without costs, by a share of 1 and one of 2.
		{"tier 0 0%;", []string{"sale s1 EUR - 100 ann:1 bob:2", "balances"}, []string{"available ann EUR 33", "available bob EUR 67", "clearing - EUR -100"}},
		// Of 10 and 30 left, 4 taken.
		{"tier 0 0%;", []string{"sale s1 EUR - 40 ann:10 bob:30", "refund r1 s1 4", "balances"}, []string{"available ann EUR 9", "available bob EUR 27", "clearing - EUR -36"}},
		// Asked to pay by AcceptLost, then queried by Accept.
		{"tier 0 10%;", slices.Concat([]string{"sale s1 EUR - 1000 ann:1"}, tick(7), []string{"choose 2", "tick", "payouts"}), []string{"1/EUR/ann 900 asked"}},
		{"tier 0 10%;", slices.Concat([]string{"sale s1 EUR - 1000 ann:1"}, tick(7), []string{"choose 2", "tick", "tick", "choose 1", "tick", "payouts"}), []string{"1/EUR/ann 900 paid"}},
		// sale s1 EUR - 1000 ann:3 bob:1.
		{"tier 0 10%;", []string{"sale s1 EUR - 1000 ann:3 bob:1", "balances"}, []string{"available ann EUR 675", "available bob EUR 225", "clearing - EUR -1000", "fee - EUR 100"}},
		// A sale of 1000, and eight ticks.
		{"tier 0 10%;", slices.Concat([]string{"sale s1 EUR - 1000 ann:1"}, tick(8), []string{"balances"}), []string{"clearing - EUR -1000", "fee - EUR 100", "paid ann EUR 900"}},
	} {
		p := begin(t, 100, x.plan)
		if told, e := p.lines(t, x.lines...); e != api.OK || !slices.Equal(told, x.want) {
			t.Errorf("%d: %q %d, not %q", i, told, e, x.want)
		}
	}
	// tier 0 2.9%; cap 500;: two rules.
	if s, e := Plan("tier 0 2.9%; cap 500;"); e != api.OK || strings.Count(s, "\n") != 2 || s != "tier 0 2.90%;\ncap 500;\n" {
		t.Error(s, e)
	}
	if told, e := begin(t, 100, "tier 0 2.9%; cap 500;").lines(t, "sale s1 EUR - 1000 ann:1", "sale s2 EUR - 100000 ann:1"); e != api.OK || !slices.Equal(told, []string{"sale 500 heard 0"}) {
		t.Error(told, e)
	}
}
