package script

import (
	"fmt"
	"slices"
	"strings"
	"testing"

	"souk/api"
)

// P23.1: totals that aren't even, or are no amounts.

// sell makes so many sales of the greatest amount.
func sell(t *testing.T, d *Desk, name, party string, n int) {
	t.Helper()
	for i := range n {
		told, e := d.Line(fmt.Sprintf("sale %s%d EUR - %d %s:1", name, i, api.MaxAmount, party))
		if e != api.OK || len(told) != 1 || told[0] != "sale 0 heard 0" {
			t.Fatal(name, i, told, e)
		}
	}
}

// By sums that are no amounts, totals are odd though a book's balances are 0 together; or there are none.
func TestTotalsThatAreTooGreat(t *testing.T) {
	d := opened(t, 20000, "tier 0 0%; reserve 50% 1000;")
	tell := func(s, want string, e api.Errno) {
		t.Helper()
		told, f := d.Line(s)
		if e != f || e == api.OK && (len(told) != 1 || told[0] != want) || e != api.OK && len(told) != 0 {
			t.Fatalf("Line(%q): %q %d, not %q %d", s, told, f, want, e)
		}
		if currency, ok := strings.CutPrefix(s, "totals "); ok {
			if model, f := totalsOf(d.World(), currency); !slices.Equal(told, model) || e != f {
				t.Fatalf("Line(%q): %q %d, by the model %q %d", s, told, e, model, f)
			}
		}
	}
	sell(t, d, "a", "ann", 2)
	tell(fmt.Sprint("refund r0 a0 ", api.MaxAmount), "refund 1125899906842624 heard 0", api.OK)
	tell(fmt.Sprint("refund r1 a1 ", api.MaxAmount), "refund 1125899906842624 heard 0", api.OK)
	sell(t, d, "b", "bob", 8190)
	tell("totals EUR", "net 9221120237041090560 fee 0 tax 0 paid 0 take 0.00% even", api.OK)
	sell(t, d, "c", "bob", 1)
	// Their reserve and what is available are 2^63 together, though a debt of 2^50 is to be taken away.
	tell("totals EUR", "net 9222246136947933184 fee 0 tax 0 paid 0 take 0.00% odd", api.OK)
	tell("totals USD", "net 0 fee 0 tax 0 paid 0 take - even", api.OK)
	tell("refund r2 b0 1", "refund 1 heard 0", api.OK)
	tell("totals EUR", "net 9222246136947933183 fee 0 tax 0 paid 0 take 0.00% even", api.OK)
	sell(t, d, "d", "bob", 1)
	tell("totals EUR", "net 9223372036854775807 fee 0 tax 0 paid 0 take 0.00% odd", api.OK)
	tell("sale s1 EUR - 1 bob:1", "sale 0 heard 0", api.OK)
	// Of a clearing of -2^63 the net is no amount.
	tell("totals EUR", "", api.ErrOver)
	tell("totals USD", "net 0 fee 0 tax 0 paid 0 take - even", api.OK)
	tell("sale s2 EUR - 1 bob:1", "", api.ErrOver)
	if told, e := d.Line("balances"); e != api.OK || !slices.Equal(told, []string{
		"available bob EUR 4611686018427387904", "clearing - EUR -9223372036854775808", "debt ann EUR -1125899906842624",
		"reserve ann EUR 1125899906842624", "reserve bob EUR 4611686018427387904",
	}) {
		t.Fatal(told, e)
	}
}
