package sound

import (
	"fmt"
	"math"
	"math/rand/v2"
	"slices"
	"strconv"
	"strings"
	"testing"

	"souk/api"
	"souk/plan"
)

// kinds are all that there are.
var kinds = []string{"tier", "category", "cap", "minimum", "tax", "reserve"}

// first is the tier that a sound plan has ahead of its others.
var first = api.Rule{Kind: "tier", Rate: 100}

// mostN is the greatest N of a kind.
func mostN(kind string) int64 {
	if kind == "reserve" {
		return 1000
	}
	return 1 << 50
}

// rules are those of a plan's text.
func rules(t *testing.T, s string) []api.Rule {
	t.Helper()
	l, at, e := plan.Parse(s)
	if e != api.OK {
		t.Fatalf("Parse(%q): %d, %d", s, at, e)
	}
	return l
}

// wantCheck holds what Check answers of rules.
func wantCheck(t *testing.T, place int, want api.Errno, l ...api.Rule) {
	t.Helper()
	if at, e := Check(l...); at != place || e != want {
		t.Errorf("Check(%.500q) = %d, %d, want %d, %d", fmt.Sprint(l), at, e, place, want)
	}
}

func wantSound(t *testing.T, l ...api.Rule) {
	t.Helper()
	wantCheck(t, 0, api.OK, l...)
}

// wantUnsound holds which rule of a text isn't sound, and how.
func wantUnsound(t *testing.T, s string, place int, want api.Errno) {
	t.Helper()
	wantCheck(t, place, want, rules(t, s)...)
}

// Number.

func TestNumber(t *testing.T) {
	l := []api.Rule{
		{Kind: "reserve", N: 30, Rate: 1000}, {Kind: "tier", N: 0, Rate: 290}, {Kind: "cap", N: 3}, {Kind: "tier", N: 7, Rate: 150},
		{Kind: "category", Name: "cap", Rate: 5}, {Kind: "cap", Name: "a", N: 4}, {Kind: "what", N: -1}, {Kind: "cap", N: 5}, {Kind: "", N: 6},
	}
	for _, other := range []int64{0, 1, -1, 3, 9, api.MaxAmount, math.MaxInt64, math.MinInt64} {
		for kind, want := range map[string]int64{"reserve": 30, "tier": 0, "cap": 3, "category": 0, "what": -1, "": 6} {
			if n := Number(l, kind, other); n != want {
				t.Errorf("Number(l, %q, %d) = %d, want %d", kind, other, n, want)
			}
		}
		for _, kind := range []string{"minimum", "tax", "ca", "caps", "Cap", " cap", "cap ", "a", "\xff", "cap\x00"} {
			if n := Number(l, kind, other); n != other {
				t.Errorf("Number(l, %q, %d) = %d", kind, other, n)
			}
		}
		for _, kind := range append([]string{"", "what"}, kinds...) {
			for _, none := range [][]api.Rule{nil, {}, l[:0], l[3:3]} {
				if n := Number(none, kind, other); n != other {
					t.Errorf("Number(none, %q, %d) = %d", kind, other, n)
				}
			}
		}
	}
}

// Number is of rules that aren't sound, too.
func TestNumberOfEachKind(t *testing.T) {
	for _, kind := range kinds {
		for _, n := range []int64{0, 1, -1, 5, 1000, 1001, api.MaxAmount, api.MaxAmount + 1, math.MaxInt64, math.MinInt64} {
			once := []api.Rule{{Kind: kind, Name: "x", N: n, Rate: -7}}
			twice := []api.Rule{{Kind: kind + "s", N: 71}, once[0], {Kind: kind, Name: "x", N: 72}, {Kind: kind, N: 73}}
			for _, l := range [][]api.Rule{once, twice} {
				if got := Number(l, kind, 9); got != n {
					t.Errorf("Number(%v, %q, 9) = %d, want %d", l, kind, got, n)
				}
			}
			// What lies behind the list's length isn't read.
			if got := Number(twice[:1], kind, 9); got != 9 {
				t.Errorf("Number(%v, %q, 9) = %d", twice[:1], kind, got)
			}
		}
	}
}

// Check of sound rules, and the example.

func TestTheExample(t *testing.T) {
	wantUnsound(t, "tier 5 1%;", 0, api.ErrPlan)
}

func TestSoundPlans(t *testing.T) {
	for _, s := range []string{
		"tier 0 0%;", "tier 0 2.9%; cap 500;", "tier 0 100%;",
		"tier 0 1%; tier 5 2%; cap 9; minimum 9; category a 1%; category b 1%; tax 5%; reserve 100% 1000;",
		"reserve 10% 0; minimum 3; cap 4; tax 0%; category x 100%; category tier 0%; tier 0 7%; tier 1 6%; tier 2 8%; tier 1125899906842624 100%;",
		"cap 1125899906842624; tier 0 1%; minimum 1125899906842624;",
		"cap 0; minimum 0; tier 0 1%;",
	} {
		wantSound(t, rules(t, s)...)
	}
}

// Each kind may stand behind a first tier, and ahead of it but for a tier.
func TestEachKindSound(t *testing.T) {
	for _, kind := range kinds {
		r := api.Rule{Kind: kind, Name: "x", N: 1, Rate: 1}
		wantSound(t, first, r)
		if kind == "tier" {
			wantCheck(t, 0, api.ErrPlan, r, first)
			wantCheck(t, 0, api.ErrPlan, r)
			continue
		}
		if kind != "minimum" {
			r.N = 0
		}
		wantSound(t, r, first)
		wantCheck(t, -1, api.ErrPlan, r)
	}
}

// ErrArg.

func TestKindsThatArentKnown(t *testing.T) {
	names := []string{"", " ", "what", "Tier", "CAP", "tier ", " cap", "caps", "ca", "cap;", "cap 5", "sale", "fee", "\xff", "tier\x00", strings.Repeat("tier", 100)}
	for _, kind := range names {
		if plan.Known(kind) {
			t.Fatalf("%q is known", kind)
		}
		for _, n := range []int64{0, 1, -1, 1000, 1001, api.MaxAmount, api.MaxAmount + 1, math.MaxInt64, math.MinInt64} {
			for _, rate := range []int64{0, 1, -1, api.Whole, api.Whole + 1, math.MaxInt64, math.MinInt64} {
				r := api.Rule{Kind: kind, N: n, Rate: rate}
				wantCheck(t, 0, api.ErrArg, r)
				wantCheck(t, 0, api.ErrArg, r, r)
				wantCheck(t, 0, api.ErrArg, r, first)
				wantCheck(t, 1, api.ErrArg, first, r)
				wantCheck(t, 2, api.ErrArg, first, api.Rule{Kind: "cap", N: 5}, r, api.Rule{Kind: "cap", N: 5})
			}
		}
	}
}

// ErrOver.

// wantOne holds what Check answers of a rule among others, and of one of its kind behind another of it.
func wantOne(t *testing.T, r api.Rule, want api.Errno) {
	t.Helper()
	cap1 := api.Rule{Kind: "cap", Name: "other", N: api.MaxAmount}
	place := func(at int) int {
		if want == api.OK {
			return 0
		}
		return at
	}
	wantCheck(t, place(1), want, first, r)
	wantCheck(t, place(2), want, first, cap1, r)
	wantCheck(t, place(1), want, first, r, api.Rule{Kind: "category", Name: "other"})
	if want != api.OK { // nothing behind it is looked at
		wantCheck(t, 1, want, first, r, r)
		wantCheck(t, 1, want, first, r, api.Rule{Kind: "what"})
		if r.Kind != "tier" {
			wantCheck(t, 0, want, r)
			wantCheck(t, 0, want, r, first)
		}
	}
}

func TestNumbersAtTheirEdges(t *testing.T) {
	for _, kind := range kinds {
		most := mostN(kind)
		for _, rate := range []int64{0, 1, api.Whole} {
			for _, n := range []int64{1, 2, 999, most - 1, most} {
				wantOne(t, api.Rule{Kind: kind, N: n, Rate: rate}, api.OK)
			}
			for _, n := range []int64{-1, -2, -most, -most - 1, most + 1, most + 2, api.MaxAmount + 1, 1 << 51, 1 << 62, math.MaxInt64 - 1, math.MaxInt64, math.MinInt64, math.MinInt64 + 1} {
				wantOne(t, api.Rule{Kind: kind, N: n, Rate: rate}, api.ErrOver)
			}
		}
		if kind == "tier" { // behind a first one 0 is too small, but not below 0
			wantOne(t, api.Rule{Kind: kind}, api.ErrPlan)
		} else {
			wantOne(t, api.Rule{Kind: kind}, api.OK)
		}
	}
}

func TestRatesAtTheirEdges(t *testing.T) {
	for _, kind := range kinds {
		for _, n := range []int64{1, 1000, mostN(kind)} {
			for _, rate := range []int64{0, 1, 100, 9999, 10000} {
				wantOne(t, api.Rule{Kind: kind, N: n, Rate: rate}, api.OK)
			}
			for _, rate := range []int64{-1, -2, -10000, -10001, 10001, 10002, 20000, 1 << 32, api.MaxAmount, math.MaxInt64 - 1, math.MaxInt64, math.MinInt64, math.MinInt64 + 1} {
				wantOne(t, api.Rule{Kind: kind, N: n, Rate: rate}, api.ErrOver)
			}
		}
	}
}

// A number of a kind, and a rate, that are both at the edge or beyond it.
func TestNumbersAndRatesTogether(t *testing.T) {
	for _, kind := range kinds {
		most := mostN(kind)
		wantOne(t, api.Rule{Kind: kind, N: most, Rate: api.Whole}, api.OK)
		for _, n := range []int64{-1, most, most + 1, math.MinInt64, math.MaxInt64} {
			for _, rate := range []int64{-1, 10001, math.MinInt64, math.MaxInt64} {
				wantOne(t, api.Rule{Kind: kind, N: n, Rate: rate}, api.ErrOver)
				wantOne(t, api.Rule{Kind: kind, N: n, Rate: rate, Name: "x"}, api.ErrOver)
			}
		}
	}
	if api.MaxAmount != 1<<50 || api.Whole != 10000 {
		t.Fatal("the limits are others")
	}
}

func TestFirstTiersAtEdges(t *testing.T) {
	for _, n := range []int64{-1, api.MaxAmount + 1, math.MaxInt64, math.MinInt64} {
		wantCheck(t, 0, api.ErrOver, api.Rule{Kind: "tier", N: n})
		wantCheck(t, 0, api.ErrOver, api.Rule{Kind: "tier", N: n, Rate: -1})
	}
	for _, rate := range []int64{-1, 10001, math.MaxInt64, math.MinInt64} {
		wantCheck(t, 0, api.ErrOver, api.Rule{Kind: "tier", Rate: rate})
		wantCheck(t, 0, api.ErrOver, api.Rule{Kind: "tier", N: 5, Rate: rate})
	}
	wantUnsound(t, "tier 0 100.01%;", 0, api.ErrOver)
	wantSound(t, api.Rule{Kind: "tier", Rate: 10000})
}

func TestTicksOfAReserve(t *testing.T) {
	if MostTicks != 1000 {
		t.Fatalf("the most ticks are %d", MostTicks)
	}
	for _, n := range []int64{0, 1, 999, 1000} {
		r := api.Rule{Kind: "reserve", N: n, Rate: 1000}
		wantSound(t, first, r)
		wantSound(t, r, first)
	}
	for _, n := range []int64{1001, 1002, 10000, api.MaxAmount - 1, api.MaxAmount} {
		r := api.Rule{Kind: "reserve", N: n, Rate: 1000}
		wantCheck(t, 1, api.ErrOver, first, r)
		wantCheck(t, 0, api.ErrOver, r, first)
		// Of a second one its ticks are looked at first.
		wantCheck(t, 2, api.ErrOver, first, api.Rule{Kind: "reserve", N: 5}, r)
	}
	for _, kind := range kinds[:5] { // of others they may be more
		wantSound(t, first, api.Rule{Kind: kind, N: 1001})
	}
	wantUnsound(t, "tier 0 1%; reserve 1% 1001;", 1, api.ErrOver)
	wantUnsound(t, "tier 0 1%; reserve 1% 1000; reserve 1% 1000;", 2, api.ErrTwice)
}

// ErrPlan of tiers.

func TestFirstTiers(t *testing.T) {
	others := rules(t, "cap 9; minimum 2; category a 1%; tax 2%; reserve 3% 4;")
	for _, n := range []int64{0, 1, 2, 5, 1000, 1001, api.MaxAmount - 1, api.MaxAmount} {
		tier := api.Rule{Kind: "tier", N: n, Rate: 100}
		for k := range len(others) + 1 { // with so many others ahead
			l := slices.Insert(slices.Clone(others), k, tier)
			if n == 0 {
				wantSound(t, l...)
				wantSound(t, l[:k+1]...)
			} else {
				wantCheck(t, k, api.ErrPlan, l...)
				wantCheck(t, k, api.ErrPlan, append(l, first)...)
			}
		}
	}
}

func TestTiersBehindTiers(t *testing.T) {
	others := rules(t, "cap 9; minimum 2; category a 1%; tax 2%; reserve 3% 4;")
	for _, last := range []int64{0, 1, 5, 1000, api.MaxAmount - 1, api.MaxAmount} {
		for _, n := range []int64{0, 1, 2, 4, 5, 6, 999, 1000, 1001, api.MaxAmount - 2, api.MaxAmount - 1, api.MaxAmount} {
			for k := range len(others) + 1 { // with so many others between
				l := []api.Rule{first}
				if last > 0 {
					l = append(l, api.Rule{Kind: "tier", N: last, Rate: 9})
				}
				l = append(l, others[:k]...)
				place := len(l)
				l = append(l, api.Rule{Kind: "tier", N: n, Rate: 100})
				l = append(l, others[k:]...)
				if n > last {
					wantSound(t, l...)
				} else {
					wantCheck(t, place, api.ErrPlan, l...)
				}
			}
		}
	}
}

// The last tier ahead counts, not the first, nor the least.
func TestManyTiers(t *testing.T) {
	wantUnsound(t, "tier 0 1%; tier 0 2%;", 1, api.ErrPlan)
	wantUnsound(t, "tier 0 1%; tier 5 1%; tier 3 1%; tier 9 1%;", 2, api.ErrPlan)
	wantUnsound(t, "tier 0 1%; tier 5 1%; tier 7 1%; tier 6 1%;", 3, api.ErrPlan)
	wantUnsound(t, "tier 0 1%; tier 5 1%; tier 7 1%; cap 5; tier 7 1%;", 4, api.ErrPlan)
	wantUnsound(t, "tier 0 1%; cap 9; tier 5 1%; tier 0 1%;", 3, api.ErrPlan)
	// A number of another kind is no tier's.
	wantSound(t, rules(t, "cap 100; tier 0 1%; minimum 50; reserve 1% 900; tier 1 1%; tier 2 1%;")...)
	var l []api.Rule
	for n := range int64(1000) {
		l = append(l, api.Rule{Kind: "tier", N: n * n, Rate: n})
	}
	wantSound(t, l...)
	l[500].N--
	wantSound(t, l...)
	l[500].N = l[499].N
	wantCheck(t, 500, api.ErrPlan, l...)
}

// Of tiers the names don't count, nor the rates.
func TestTiersOfTheSameName(t *testing.T) {
	for _, name := range []string{"", "x", "tier", "\xff"} {
		a, b := api.Rule{Kind: "tier", Name: name}, api.Rule{Kind: "tier", Name: name, N: 1}
		wantSound(t, a, b)
		wantSound(t, a, api.Rule{Kind: "cap", Name: name, N: 1}, b)
		wantCheck(t, 1, api.ErrPlan, a, a)
		wantCheck(t, 2, api.ErrPlan, a, b, b)
		b.Name = name + "y"
		wantSound(t, a, b)
		b.N = 0
		wantCheck(t, 1, api.ErrPlan, a, b)
		wantCheck(t, 0, api.ErrPlan, api.Rule{Kind: "tier", Name: name, N: 1}, a)
	}
}

// ErrTwice.

func TestRulesThatMayStandOnce(t *testing.T) {
	others := rules(t, "tier 5 1%; tier 6 1%; category other 1%; category another 2%; tier 7 1%;")
	for _, kind := range kinds[1:] {
		for _, name := range []string{"", "x", "cap", "tier", kind, "\xff", strings.Repeat("a", 50)} {
			a := api.Rule{Kind: kind, Name: name, N: 4, Rate: 4}
			for _, b := range []api.Rule{a, {Kind: kind, Name: name}, {Kind: kind, Name: name, N: 4}, {Kind: kind, Name: name, N: 5, Rate: 10000}} {
				wantCheck(t, 1, api.ErrTwice, a, b)
				wantCheck(t, 1, api.ErrTwice, a, b, first)
				for k := range len(others) + 1 { // with so many others between
					l := append([]api.Rule{first, a}, others[:k]...)
					l = append(l, b)
					wantCheck(t, 2+k, api.ErrTwice, l...)
					wantCheck(t, 2+k, api.ErrTwice, append(l, others[k:]...)...)
					wantCheck(t, 2+k, api.ErrTwice, append(l, a, a)...)
				}
			}
		}
	}
	wantUnsound(t, "tier 0 1%; cap 1; tax 1%; cap 1;", 3, api.ErrTwice)
	wantUnsound(t, "tier 0 1%; category a 1%; category a 2%;", 2, api.ErrTwice)
	wantUnsound(t, "tier 0 1%; category a 1%; category b 1%; category a 1%;", 3, api.ErrTwice)
}

func TestSameKindsOfOtherNames(t *testing.T) {
	for _, kind := range kinds[1:] {
		var l []api.Rule
		for _, name := range []string{"", "x", "y", "xy", "X", " x", "x ", "\x00", "x\x00", kind} {
			l = append(l, api.Rule{Kind: kind, Name: name, N: 5, Rate: 5})
		}
		wantSound(t, append(slices.Clone(l), first)...)
		wantSound(t, append([]api.Rule{first}, l...)...)
		for i, r := range l {
			turned := slices.Concat(l[i:], l[:i])
			wantSound(t, append(slices.Clone(turned), first)...)
			wantCheck(t, len(l), api.ErrTwice, append(slices.Clone(l), r)...)
			wantCheck(t, len(l), api.ErrTwice, append(turned, r)...)
		}
	}
}

func TestSameNamesOfOtherKinds(t *testing.T) {
	for _, name := range []string{"", "x", "cap", "tier"} {
		var l []api.Rule
		for _, kind := range kinds {
			l = append(l, api.Rule{Kind: kind, Name: name})
		}
		wantSound(t, l...)
		slices.Reverse(l)
		wantSound(t, l...)
	}
	wantSound(t, first, api.Rule{Kind: "cap", Name: "tax"}, api.Rule{Kind: "tax", Name: "cap"}, api.Rule{Kind: "tax"}, api.Rule{Kind: "cap"})
}

// Which of several errors is told.

func TestSeveralErrorsOfOneRule(t *testing.T) {
	// ErrOver comes ahead of ErrPlan and of ErrTwice, ErrArg ahead of all.
	for _, n := range []int64{-1, api.MaxAmount + 1, math.MaxInt64, math.MinInt64} {
		for _, kind := range kinds {
			r := api.Rule{Kind: kind, N: n}
			wantCheck(t, 2, api.ErrOver, first, api.Rule{Kind: kind, N: 1}, r)
			r = api.Rule{Kind: kind, Rate: n}
			wantCheck(t, 2, api.ErrOver, first, api.Rule{Kind: kind, N: 1}, r)
		}
		wantCheck(t, 0, api.ErrOver, api.Rule{Kind: "tier", N: n})
		wantCheck(t, 0, api.ErrOver, api.Rule{Kind: "tier", N: 5, Rate: n})
		wantCheck(t, 2, api.ErrArg, first, api.Rule{Kind: "cap"}, api.Rule{Kind: "caps", N: n, Rate: n})
	}
	wantCheck(t, 2, api.ErrOver, first, api.Rule{Kind: "reserve"}, api.Rule{Kind: "reserve", N: 1001})
	// Of a tier it's ErrPlan, also where one of its name is ahead; of others ErrTwice.
	wantCheck(t, 1, api.ErrPlan, first, first)
	wantCheck(t, 2, api.ErrTwice, first, api.Rule{Kind: "cap", N: 7}, api.Rule{Kind: "cap", N: 7})
}

func TestSeveralRulesThatArentSound(t *testing.T) {
	wrong := map[api.Errno]api.Rule{
		api.ErrArg:   {Kind: "what"},
		api.ErrOver:  {Kind: "reserve", N: 1001},
		api.ErrPlan:  {Kind: "tier"},
		api.ErrTwice: {Kind: "cap", N: 5},
	}
	ahead := rules(t, "tier 0 1%; cap 5;")
	between := rules(t, "minimum 1; tax 1%; category a 1%;")
	for e, r := range wrong {
		wantCheck(t, 2, e, append(slices.Clone(ahead), r)...)
		for f, s := range wrong {
			wantCheck(t, 2, e, append(slices.Clone(ahead), r, s)...)
			wantCheck(t, 2, f, append(slices.Clone(ahead), s, r)...)
			l := append(slices.Clone(ahead), between...)
			l = append(l, r)
			l = append(l, s)
			wantCheck(t, 5, e, l...)
			l = append(append(append(slices.Clone(ahead), s), between...), r)
			wantCheck(t, 2, f, l...)
		}
	}
}

// All rules together.

func TestNoTier(t *testing.T) {
	wantCheck(t, -1, api.ErrPlan)
	wantCheck(t, -1, api.ErrPlan, []api.Rule{}...)
	wantCheck(t, -1, api.ErrPlan, make([]api.Rule, 0, 5)...)
	for _, s := range []string{
		"cap 5;", "cap 0;", "minimum 0;", "minimum 5;", "category tier 1%;", "tax 1%;", "reserve 1% 1;", "reserve 0% 0;",
		"cap 5; minimum 5; tax 1%; category a 1%; reserve 1% 1;", "cap 5; minimum 6;", "cap 5; minimum 4;",
	} {
		wantUnsound(t, s, -1, api.ErrPlan)
		wantSound(t, append(rules(t, strings.ReplaceAll(s, "6", "5")), first)...)
	}
	// A tier behind the list's length is none of it.
	l := rules(t, "cap 5; tax 1%; tier 0 1%;")
	wantCheck(t, -1, api.ErrPlan, l[:2]...)
	wantSound(t, l...)
}

func TestCapsAndMinimums(t *testing.T) {
	edges := []int64{0, 1, 2, 5, 6, 1000, 1001, api.MaxAmount - 1, api.MaxAmount}
	for _, most := range edges {
		for _, least := range edges {
			cap1, minimum := api.Rule{Kind: "cap", N: most}, api.Rule{Kind: "minimum", N: least}
			place, e := 0, api.OK
			if most < least {
				place, e = -1, api.ErrPlan
			}
			for _, l := range [][]api.Rule{{first, cap1, minimum}, {first, minimum, cap1}, {cap1, minimum, first}, {minimum, first, cap1}, {minimum, cap1, first}, {cap1, first, minimum}} {
				wantCheck(t, place, e, l...)
				wantCheck(t, place, e, append(l, rules(t, "tier 5 1%; tax 1%; category a 1%; reserve 1% 1;")...)...)
			}
		}
	}
	wantUnsound(t, "tier 0 1%; cap 5; minimum 6;", -1, api.ErrPlan)
}

func TestACapOrAMinimumAlone(t *testing.T) {
	for _, kind := range []string{"cap", "minimum"} {
		for _, n := range []int64{0, 1, 5, 1000, api.MaxAmount - 1, api.MaxAmount} {
			r := api.Rule{Kind: kind, N: n}
			wantSound(t, first, r)
			wantSound(t, r, first)
			wantCheck(t, -1, api.ErrPlan, r)
			// Other kinds' numbers, and names, make no cap, and no minimum.
			wantSound(t, first, r, api.Rule{Kind: "tier", N: 7}, api.Rule{Kind: "tax", N: 8}, api.Rule{Kind: "category", Name: "cap", N: 3}, api.Rule{Kind: "category", Name: "minimum", N: 9}, api.Rule{Kind: "reserve", N: 6})
		}
	}
}

// Of caps, or minimums, of several names the first one counts.
func TestTheFirstCapAndTheFirstMinimumCount(t *testing.T) {
	rule := func(kind, name string, n int64) api.Rule { return api.Rule{Kind: kind, Name: name, N: n} }
	wantSound(t, first, rule("cap", "", 5), rule("cap", "a", 1), rule("minimum", "", 5))
	wantSound(t, first, rule("cap", "a", 5), rule("cap", "", 1), rule("minimum", "", 5))
	wantCheck(t, -1, api.ErrPlan, first, rule("cap", "", 4), rule("cap", "a", 9), rule("minimum", "", 5))
	wantCheck(t, -1, api.ErrPlan, first, rule("cap", "a", 4), rule("cap", "", 9), rule("minimum", "", 5))
	wantSound(t, first, rule("minimum", "", 5), rule("minimum", "a", 9), rule("cap", "", 5))
	wantCheck(t, -1, api.ErrPlan, first, rule("minimum", "", 6), rule("minimum", "a", 1), rule("cap", "", 5))
}

// All together are looked at only if each one is sound.
func TestEachRuleComesAheadOfAllTogether(t *testing.T) {
	for _, s := range []string{"cap 5; minimum 6;", "tier 0 1%; cap 5; minimum 6;", "cap 5;", "minimum 6; cap 5; tier 0 1%;", ""} {
		l := rules(t, s)
		at := len(l)
		wantCheck(t, -1, api.ErrPlan, l...)
		wantCheck(t, at, api.ErrArg, append(l, api.Rule{Kind: "what"})...)
		wantCheck(t, at, api.ErrOver, append(l, api.Rule{Kind: "tax", Rate: 10001})...)
		wantCheck(t, at, api.ErrOver, append(l, api.Rule{Kind: "reserve", N: 1001})...)
		wantCheck(t, at+1, api.ErrTwice, append(l, api.Rule{Kind: "tax"}, api.Rule{Kind: "tax"})...)
	}
	wantUnsound(t, "cap 5; minimum 6; tier 5 1%;", 2, api.ErrPlan)
	wantUnsound(t, "cap 5; minimum 6; tier 0 1%; tier 0 1%;", 3, api.ErrPlan)
}

// Check against a model: each error by what stands ahead, rule by rule.

func modelOne(ahead []api.Rule, r api.Rule) api.Errno {
	tiers := slices.DeleteFunc(slices.Clone(ahead), func(x api.Rule) bool { return x.Kind != "tier" })
	twin := slices.ContainsFunc(ahead, func(x api.Rule) bool { return x.Kind == r.Kind && x.Name == r.Name })
	tier := r.Kind == "tier"
	switch {
	case !slices.Contains(kinds, r.Kind):
		return api.ErrArg
	case uint64(r.N) > 1<<50, uint64(r.Rate) > 10000:
		return api.ErrOver
	case r.Kind == "reserve" && r.N > 1000:
		return api.ErrOver
	case tier && len(tiers) == 0 && r.N != 0:
		return api.ErrPlan
	case tier && len(tiers) > 0 && r.N <= tiers[len(tiers)-1].N:
		return api.ErrPlan
	case !tier && twin:
		return api.ErrTwice
	}
	return api.OK
}

func model(l []api.Rule) (int, api.Errno) {
	tiers, most, least := 0, []int64{}, []int64{}
	for i, r := range l {
		if e := modelOne(l[:i], r); e != api.OK {
			return i, e
		}
		switch r.Kind {
		case "tier":
			tiers++
		case "cap":
			most = append(most, r.N)
		case "minimum":
			least = append(least, r.N)
		}
	}
	most, least = append(most, 1<<50), append(least, 0)
	if tiers == 0 || most[0] < least[0] {
		return -1, api.ErrPlan
	}
	return 0, api.OK
}

// holdAgainstModel also answers which rule of a list isn't sound, and how.
func holdAgainstModel(t *testing.T, l []api.Rule) (int, api.Errno) {
	t.Helper()
	at, e := Check(l...)
	place, want := model(l)
	if at != place || e != want {
		t.Fatalf("Check(%q) = %d, %d, want %d, %d", fmt.Sprint(l), at, e, place, want)
	}
	return place, want
}

// TestEachShortList goes through each list of up to four rules of some sorts.
func TestEachShortList(t *testing.T) {
	sorts := []api.Rule{
		{Kind: "tier"}, {Kind: "tier", N: 5, Name: "x"}, {Kind: "tier", N: 5}, {Kind: "tier", N: api.MaxAmount, Rate: 10000}, {Kind: "tier", N: -1},
		{Kind: "category", Name: "x"}, {Kind: "category", Name: "y", Rate: 10001},
		{Kind: "cap"}, {Kind: "cap", N: 5}, {Kind: "cap", Name: "x", N: 6}, {Kind: "minimum"}, {Kind: "minimum", N: 6}, {Kind: "minimum", N: api.MaxAmount + 1},
		{Kind: "tax", Rate: 5}, {Kind: "reserve", N: 1000}, {Kind: "reserve", N: 1001}, {Kind: "what"},
	}
	var all func(l []api.Rule)
	all = func(l []api.Rule) {
		holdAgainstModel(t, l)
		for i := 0; len(l) < 4 && i < len(sorts); i++ {
			all(append(slices.Clone(l), sorts[i]))
		}
	}
	all(nil)
}

func TestRandomListsAgainstModel(t *testing.T) {
	r := rand.New(rand.NewPCG(10, 1))
	numbers := []int64{0, 1, 5, 999, 1000, 1001, api.MaxAmount - 1, api.MaxAmount, api.MaxAmount + 1, -1, math.MaxInt64, math.MinInt64}
	rates := []int64{0, 1, 290, 9999, 10000, 10001, -1, math.MaxInt64, math.MinInt64}
	all := append([]string{"what", "", "Tier"}, kinds...)
	counts, together := map[api.Errno]int{}, 0
	for range 60000 {
		var l []api.Rule
		last := int64(-1)
		for i := range r.IntN(15) {
			x := api.Rule{Kind: kinds[r.IntN(6)], Rate: r.Int64N(10001), N: 3 + r.Int64N(5)}
			switch {
			case i == 0 && r.IntN(8) > 0:
				x.Kind, x.N, last = "tier", 0, 0
			case x.Kind == "tier":
				last += 1 + r.Int64N(9)
				x.N = last
			default:
				x.Name = strconv.Itoa(r.IntN(30))
			}
			if r.IntN(20) == 0 {
				x = api.Rule{Kind: all[r.IntN(len(all))], N: numbers[r.IntN(len(numbers))], Rate: rates[r.IntN(len(rates))]}
			}
			l = append(l, x)
		}
		kept := slices.Clone(l)
		place, e := holdAgainstModel(t, l)
		holdAgainstModel(t, l) // asked again it's the same
		if !slices.Equal(l, kept) {
			t.Fatalf("the list is %v, want %v", l, kept)
		}
		counts[e]++
		if place < 0 {
			together++
		}
	}
	for _, e := range []api.Errno{api.OK, api.ErrArg, api.ErrOver, api.ErrPlan, api.ErrTwice} {
		if counts[e] < 1000 {
			t.Errorf("only %d lists of error %d", counts[e], e)
		}
	}
	if together < 1000 {
		t.Errorf("only %d lists that together aren't sound", together)
	}
}

// P1 and P2.

func TestLongLists(t *testing.T) {
	n := 1 << 17
	l := []api.Rule{first}
	for i := range n {
		l = append(l, api.Rule{Kind: "category", Name: strconv.Itoa(i)})
	}
	wantSound(t, l...)
	wantCheck(t, n+1, api.ErrTwice, append(l, l[1])...)
	wantCheck(t, n+1, api.ErrTwice, append(l, l[n])...)
	wantCheck(t, n+1, api.ErrPlan, append(l, first)...)
	wantCheck(t, -1, api.ErrPlan, l[1:]...)
	if got := Number(append(l, api.Rule{Kind: "cap", N: 5}), "cap", 9); got != 5 {
		t.Errorf("the number is %d", got)
	}
	if got := Number(l, "cap", 9); got != 9 {
		t.Errorf("the number is %d", got)
	}
}

// Lists of more rules than a text may say are looked at alike.
func TestMoreThanFortyRules(t *testing.T) {
	l := []api.Rule{first}
	for i := range int64(100) {
		l = append(l, api.Rule{Kind: "tier", N: i + 1})
	}
	for _, n := range []int{39, 40, 41, 42, 101} {
		wantSound(t, l[:n]...)
		wantCheck(t, n, api.ErrPlan, append(slices.Clone(l[:n]), first)...)
	}
}

func TestOneCallSaysNothingToTheNext(t *testing.T) {
	twice := rules(t, "tier 0 1%; cap 5; cap 5;")
	for range 3 {
		wantSound(t, twice[:2]...)
		wantCheck(t, 2, api.ErrTwice, twice...)
		wantSound(t, twice[:1]...)
		wantCheck(t, -1, api.ErrPlan, twice[1:2]...)
		wantCheck(t, 0, api.ErrPlan, api.Rule{Kind: "tier", N: 1})
	}
}
