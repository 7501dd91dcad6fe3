package fee

import (
	"fmt"
	"math"
	"math/big"
	"math/rand/v2"
	"slices"
	"strconv"
	"strings"
	"testing"

	"souk/api"
	"souk/plan"
	"souk/sound"
)

const most = api.MaxAmount

// rules are those of a plan's text.
func rules(t *testing.T, s string) []api.Rule {
	t.Helper()
	l, at, e := plan.Parse(s)
	if e != api.OK {
		t.Fatalf("Parse(%q): %d, %d", s, at, e)
	}
	return l
}

// wantCosts holds what a sale costs.
func wantCosts(t *testing.T, l []api.Rule, category string, amount int64, want Costs) {
	t.Helper()
	if c, e := Of(l, category, amount); c != want || e != api.OK {
		t.Errorf("Of(%.500q, %q, %d) = %v, %d, want %v", fmt.Sprint(l), category, amount, c, e, want)
	}
}

// wantErrArg holds that a sale isn't told what it costs, and that nothing stands beside the error.
func wantErrArg(t *testing.T, l []api.Rule, category string, amount int64) {
	t.Helper()
	if c, e := Of(l, category, amount); c != (Costs{}) || e != api.ErrArg {
		t.Errorf("Of(%.500q, %q, %d) = %v, %d, want ErrArg alone", fmt.Sprint(l), category, amount, c, e)
	}
}

// sale is one that has no category's rule, with its fee and its tax.
type sale struct {
	amount, fee, tax int64
}

// wantSales holds sales by the plan of a text, that has no reserve.
func wantSales(t *testing.T, s string, sales ...sale) {
	t.Helper()
	for _, x := range sales {
		wantCosts(t, rules(t, s), "none", x.amount, Costs{Fee: x.fee, Tax: x.tax})
	}
}

// The examples.

func TestTheExample(t *testing.T) {
	wantSales(t, "tier 0 10%; cap 50; tax 20%;", sale{1000, 50, 10})
}

func TestAPlanOfAllKinds(t *testing.T) {
	l := rules(t, "tier 0 10%; tier 1000 5%; category books 2.5%; cap 80; minimum 4; tax 20%; reserve 10% 30;")
	for _, c := range []struct {
		category string
		sale
	}{
		{"", sale{0, 0, 0}}, {"", sale{1, 1, 0}}, {"", sale{4, 4, 0}}, {"", sale{5, 4, 1}}, {"", sale{100, 10, 2}}, {"", sale{999, 80, 16}},
		{"", sale{1000, 50, 10}}, {"", sale{5000, 80, 16}}, {"books", sale{60, 4, 1}}, {"books", sale{1000, 25, 5}}, {"toys", sale{1000, 50, 10}},
	} {
		for k := range len(l) { // the other kinds' rules may stand anywhere
			turned := slices.Concat(l[:2:2], l[2+k%(len(l)-2):], l[2:2+k%(len(l)-2)])
			wantCosts(t, turned, c.category, c.amount, Costs{c.fee, c.tax, 1000, 30})
			turned = slices.Concat(l[2:2+k%(len(l)-2)], l[:2:2], l[2+k%(len(l)-2):])
			wantCosts(t, turned, c.category, c.amount, Costs{c.fee, c.tax, 1000, 30})
		}
	}
}

// ErrArg.

// unsound are plans that aren't sound, by each of layer 10's errors.
func unsound() map[api.Errno][][]api.Rule {
	tier := api.Rule{Kind: "tier", Rate: 1000}
	with := func(r ...api.Rule) []api.Rule { return append([]api.Rule{tier}, r...) }
	return map[api.Errno][][]api.Rule{
		api.ErrArg: {{{}}, {{Kind: "what"}}, with(api.Rule{}), with(api.Rule{Kind: "Cap", N: 5}), {{Kind: "tier "}, tier}, with(api.Rule{Kind: "books", Rate: 5})},
		api.ErrOver: {
			{{Kind: "tier", N: -1}}, {{Kind: "tier", Rate: -1}}, {{Kind: "tier", Rate: 10001}}, with(api.Rule{Kind: "tier", N: most + 1}),
			with(api.Rule{Kind: "cap", N: -1}), with(api.Rule{Kind: "cap", N: most + 1}), with(api.Rule{Kind: "cap", Rate: -1}), with(api.Rule{Kind: "minimum", N: math.MinInt64}), with(api.Rule{Kind: "minimum", N: math.MaxInt64}),
			with(api.Rule{Kind: "category", Name: "books", Rate: 10001}), with(api.Rule{Kind: "category", Name: "toys", Rate: -1}),
			with(api.Rule{Kind: "tax", Rate: 10001}), with(api.Rule{Kind: "tax", Rate: -1}), with(api.Rule{Kind: "tax", Rate: math.MaxInt64}),
			with(api.Rule{Kind: "reserve", N: 1001}), with(api.Rule{Kind: "reserve", Rate: 10001}), with(api.Rule{Kind: "reserve", N: -1}),
		},
		api.ErrPlan: {
			nil, {}, {{Kind: "tier", N: 1}}, with(tier), with(api.Rule{Kind: "tier", N: 5}, api.Rule{Kind: "tier", N: 5}), with(api.Rule{Kind: "tier", N: 5}, api.Rule{Kind: "tier", N: 4}),
			{{Kind: "category", Name: "books", Rate: 5}}, {{Kind: "cap", N: 5}}, {{Kind: "minimum"}, {Kind: "tax"}, {Kind: "reserve"}},
			with(api.Rule{Kind: "cap", N: 5}, api.Rule{Kind: "minimum", N: 6}), with(api.Rule{Kind: "minimum", N: 1}, api.Rule{Kind: "cap"}), with(api.Rule{Kind: "minimum", N: most}, api.Rule{Kind: "cap", N: most - 1}),
			with(api.Rule{Kind: "cap", N: 5}, api.Rule{Kind: "cap", Name: "x", N: 9}, api.Rule{Kind: "minimum", N: 6}),
		},
		api.ErrTwice: {
			with(api.Rule{Kind: "cap", N: 5}, api.Rule{Kind: "cap", N: 5}), with(api.Rule{Kind: "minimum", N: 5}, api.Rule{Kind: "minimum"}), with(api.Rule{Kind: "tax"}, api.Rule{Kind: "tax", Rate: 5}),
			with(api.Rule{Kind: "reserve", N: 5}, api.Rule{Kind: "reserve"}), with(api.Rule{Kind: "category", Name: "books"}, api.Rule{Kind: "category", Name: "books", Rate: 5}), with(api.Rule{Kind: "category"}, api.Rule{Kind: "category"}),
		},
	}
}

func TestPlansThatArentSound(t *testing.T) {
	for want, plans := range unsound() {
		for _, l := range plans {
			if _, e := sound.Check(l...); e != want {
				t.Fatalf("Check(%v): %d, want %d", l, e, want)
			}
			for _, category := range []string{"", "books", "toys", "what"} {
				for _, n := range []int64{0, 1, 5, 1000, most, -1, most + 1, math.MaxInt64, math.MinInt64} {
					wantErrArg(t, l, category, n)
				}
			}
		}
	}
}

// A rule that isn't sound counts wherever it stands, and whether or not the sale needs it.
func TestRulesThatArentSoundAnywhere(t *testing.T) {
	good := rules(t, "tier 0 10%; cap 500; category books 1%; minimum 2; tax 5%; reserve 10% 30; tier 50 3%;")
	for _, bad := range []api.Rule{{Kind: "what"}, {Kind: "tax", Name: "x", Rate: 10001}, {Kind: "category", Name: "toys", N: -1}, {Kind: "reserve", Name: "x", N: 1001}} {
		for k := range len(good) + 1 {
			wantErrArg(t, slices.Insert(slices.Clone(good), k, bad), "", 100)
			wantErrArg(t, slices.Insert(slices.Clone(good), k, bad), "books", 100)
		}
	}
	wantErrArg(t, good[1:], "books", 100)
	wantErrArg(t, good[1:6], "books", 100)
	wantErrArg(t, good[:0], "books", 100)
	wantCosts(t, good, "books", 100, Costs{2, 0, 1000, 30})
}

// soundPlans are some texts.
var soundPlans = []string{
	"tier 0 0%;", "tier 0 10%;", "tier 0 100%;", "tier 0 100%; tax 100%;", "tier 0 10%; cap 0;", "tier 0 1%; minimum 1125899906842624; tax 50%;", "tier 0 2.9%; tier 1 5%; tier 1125899906842624 7%; reserve 5% 7;",
	"tier 0 10%; tier 1000 5%; category books 2.5%; cap 80; minimum 4; tax 20%; reserve 10% 30;",
}

func TestAmountsThatMayNotBe(t *testing.T) {
	for _, s := range soundPlans {
		l := rules(t, s)
		for _, n := range []int64{-1, -2, -1000, -most, -most - 1, math.MinInt64 + 1, math.MinInt64, most + 1, most + 2, 1 << 51, 1 << 62, math.MaxInt64 - 1, math.MaxInt64} {
			for _, category := range []string{"", "books", "toys"} {
				wantErrArg(t, l, category, n)
			}
		}
		for _, n := range []int64{0, 1, 2, most - 1, most} {
			if c, e := Of(l, "", n); e != api.OK {
				t.Errorf("Of(%q, %d) = %v, %d", s, n, c, e)
			}
		}
	}
}

func TestAmountsAtTheirEdges(t *testing.T) {
	if api.MaxAmount != 1<<50 || api.Whole != 10000 {
		t.Fatal("the limits are others")
	}
	wantSales(t, "tier 0 0%;", sale{0, 0, 0}, sale{1, 0, 0}, sale{most, 0, 0})
	wantSales(t, "tier 0 100%;", sale{0, 0, 0}, sale{1, 1, 0}, sale{most - 1, most - 1, 0}, sale{most, most, 0})
	wantSales(t, "tier 0 100%; tax 100%;", sale{0, 0, 0}, sale{1, 1, 0}, sale{most, most, 0})
	wantSales(t, "tier 0 50%; tax 100%;", sale{0, 0, 0}, sale{1, 0, 0}, sale{2, 1, 1}, sale{3, 2, 1}, sale{most - 1, most / 2, most/2 - 1}, sale{most, most / 2, most / 2})
	wantSales(t, "tier 0 10%; tax 20%;", sale{0, 0, 0}, sale{1, 0, 0}, sale{most - 1, 112589990684262, 22517998136852}, sale{most, 112589990684262, 22517998136852})
	wantSales(t, "tier 0 0.01%; tax 0.01%;", sale{most - 1, 112589990684, 11258999}, sale{most, 112589990684, 11258999})
	wantSales(t, "tier 0 99.99%;", sale{0, 0, 0}, sale{1, 1, 0}, sale{most, most - 112589990684, 0})
}

// The fee rate.

func TestTiersAtTheirNumbers(t *testing.T) {
	wantSales(t, "tier 0 10%;", sale{0, 0, 0}, sale{10, 1, 0}, sale{100, 10, 0}, sale{1000000, 100000, 0})
	wantSales(t, "tier 0 10%; tier 1 100%;", sale{0, 0, 0}, sale{1, 1, 0}, sale{2, 2, 0})
	wantSales(t, "tier 0 10%; tier 100 20%; tier 1000 5%;",
		sale{0, 0, 0}, sale{50, 5, 0}, sale{90, 9, 0}, sale{99, 10, 0}, sale{100, 20, 0}, sale{101, 20, 0}, sale{999, 200, 0}, sale{1000, 50, 0}, sale{1001, 50, 0}, sale{5000, 250, 0})
	wantSales(t, "tier 0 0%; tier 1125899906842623 50%; tier 1125899906842624 100%;", sale{1000, 0, 0}, sale{most - 2, 0, 0}, sale{most - 1, most / 2, 0}, sale{most, most, 0})
}

// Each of many tiers is met just below, at and just above its number.
func TestManyTiers(t *testing.T) {
	var l []api.Rule
	for i := range int64(100) {
		l = append(l, api.Rule{Kind: "tier", N: i * i * 10000, Rate: (i*137 + 5) % 10001})
	}
	for i := range int64(100) {
		n := l[i].N
		wantCosts(t, l, "", n, Costs{Fee: i * i * l[i].Rate})
		wantCosts(t, l, "", n+1, Costs{Fee: modelRate(n+1, l[i].Rate)})
		if i > 0 {
			wantCosts(t, l, "", n-1, Costs{Fee: modelRate(n-1, l[i-1].Rate)})
		}
	}
}

// The sale's amount tells its tier, neither its fee nor what a cap leaves of it; other kinds' numbers tell none.
func TestOnlyTiersHaveTiersNumbers(t *testing.T) {
	wantSales(t, "tier 0 10%; tier 100 20%; cap 500; minimum 3; tax 0%;", sale{99, 10, 0}, sale{100, 20, 0}, sale{2000, 400, 0})
	l := []api.Rule{
		{Kind: "cap", N: 50, Rate: 9000}, {Kind: "tier", Name: "books", Rate: 1000}, {Kind: "tax", N: 60, Rate: 0}, {Kind: "category", Name: "tier", N: 70, Rate: 4000},
		{Kind: "minimum", N: 1, Rate: 8000}, {Kind: "reserve", N: 80, Rate: 7000}, {Kind: "tier", Name: "", N: 100, Rate: 2000},
	}
	for _, category := range []string{"", "books", "cap", "tax"} {
		wantCosts(t, l, category, 20, Costs{2, 0, 7000, 80})
		wantCosts(t, l, category, 90, Costs{9, 0, 7000, 80})
		wantCosts(t, l, category, 100, Costs{20, 0, 7000, 80})
	}
	wantCosts(t, l, "tier", 20, Costs{8, 0, 7000, 80})
	wantCosts(t, l, "tier", 100, Costs{40, 0, 7000, 80})
}

func TestCategories(t *testing.T) {
	l := rules(t, "tier 0 10%; tier 1000 5%; category books 2%; category toys 100%; category free 0%;")
	for _, c := range []struct {
		category    string
		at100, fee1 int64 // of 100, of 1000
	}{
		{"books", 2, 20}, {"toys", 100, 1000}, {"free", 0, 0}, {"", 10, 50}, {"book", 10, 50}, {"bookss", 10, 50}, {"Books", 10, 50}, {" books", 10, 50}, {"books\x00", 10, 50}, {"category", 10, 50},
		{"tier", 10, 50}, {"\xff", 10, 50}, {strings.Repeat("books", 1000), 10, 50},
	} {
		for k := range 4 { // they may stand ahead of tiers, and in any order
			turned := slices.Concat(l[2:2+k], l[:2:2], l[2+k:])
			wantCosts(t, turned, c.category, 100, Costs{Fee: c.at100})
			wantCosts(t, turned, c.category, 1000, Costs{Fee: c.fee1})
			slices.Reverse(turned[:k])
			wantCosts(t, turned, c.category, 100, Costs{Fee: c.at100})
			wantCosts(t, turned, c.category, 1000, Costs{Fee: c.fee1})
		}
	}
}

// A category's name is bytes, of whatever sort, and may be empty.
func TestNamesOfCategories(t *testing.T) {
	names := []string{"", "a", "A", "ab", "\x00", "\xff", "\xff\xfe", "\u00e4", "cap", "tier", strings.Repeat("z", 300)}
	l := []api.Rule{{Kind: "tier", Rate: 10000}}
	for i, name := range names {
		wantCosts(t, l, name, 100, Costs{Fee: 100})
		l = append(l, api.Rule{Kind: "category", Name: name, N: int64(i), Rate: int64(i) * 100})
	}
	for i, name := range names {
		wantCosts(t, l, name, 100, Costs{Fee: int64(i)})
		wantCosts(t, l, name+"q", 100, Costs{Fee: 100})
	}
}

// A name of another kind's rule is no category's.
func TestNamesOfOtherKinds(t *testing.T) {
	for _, kind := range []string{"tier", "cap", "minimum", "tax", "reserve"} {
		l := []api.Rule{{Kind: "tier", Rate: 1000}, {Kind: kind, Name: "books", N: 50, Rate: 5000}}
		x, e := Of(l, "books", 100)
		y, _ := Of(l, "other", 100)
		if x != y || e != api.OK {
			t.Errorf("of kind %q: %v, %d, of another category %v", kind, x, e, y)
		}
	}
}

// Rounding.

func TestRoundingOfFees(t *testing.T) {
	wantSales(t, "tier 0 10%;", sale{4, 0, 0}, sale{5, 0, 0}, sale{6, 1, 0}, sale{14, 1, 0}, sale{15, 2, 0}, sale{16, 2, 0}, sale{24, 2, 0}, sale{25, 2, 0}, sale{26, 3, 0}, sale{35, 4, 0}, sale{45, 4, 0}, sale{55, 6, 0})
	wantSales(t, "tier 0 50%;", sale{1, 0, 0}, sale{2, 1, 0}, sale{3, 2, 0}, sale{4, 2, 0}, sale{5, 2, 0}, sale{6, 3, 0}, sale{7, 4, 0})
	wantSales(t, "tier 0 0.01%;", sale{4999, 0, 0}, sale{5000, 0, 0}, sale{5001, 1, 0}, sale{9999, 1, 0}, sale{10000, 1, 0}, sale{10001, 1, 0}, sale{14999, 1, 0}, sale{15000, 2, 0}, sale{25000, 2, 0}, sale{25001, 3, 0})
	wantSales(t, "tier 0 2.9%;", sale{1, 0, 0}, sale{17, 0, 0}, sale{18, 1, 0}, sale{12345, 358, 0}, sale{500, 14, 0}, sale{1500, 44, 0})
	wantSales(t, "tier 0 33.33%;", sale{1, 0, 0}, sale{2, 1, 0}, sale{3, 1, 0}, sale{10000, 3333, 0}, sale{50, 17, 0})
	wantSales(t, "tier 0 99.99%;", sale{4999, 4999, 0}, sale{5000, 5000, 0}, sale{5001, 5000, 0}, sale{10000, 9999, 0}, sale{15000, 14998, 0})
}

func TestRoundingOfTaxes(t *testing.T) {
	// The fee is half of the amount here.
	wantSales(t, "tier 0 50%; tax 10%;", sale{8, 4, 0}, sale{10, 5, 0}, sale{12, 6, 1}, sale{28, 14, 1}, sale{30, 15, 2}, sale{50, 25, 2}, sale{52, 26, 3})
	wantSales(t, "tier 0 50%; tax 50%;", sale{2, 1, 0}, sale{4, 2, 1}, sale{6, 3, 2}, sale{10, 5, 2}, sale{14, 7, 4})
	wantSales(t, "tier 0 50%; tax 0.01%;", sale{10000, 5000, 0}, sale{10002, 5001, 1}, sale{30000, 15000, 2}, sale{50000, 25000, 2})
	// The tax is that of the fee as it was rounded.
	wantSales(t, "tier 0 10%; tax 50%;", sale{15, 2, 1}, sale{14, 1, 0}, sale{25, 2, 1}, sale{26, 3, 2}, sale{45, 4, 2}, sale{55, 6, 3})
}

// Each rate of each amount of some, both of a tier and of a category.
func TestEachRate(t *testing.T) {
	for rate := range int64(10001) {
		tier := []api.Rule{{Kind: "tier", Rate: rate}}
		category := []api.Rule{{Kind: "tier", Rate: 10000 - rate}, {Kind: "category", Name: "a", Rate: rate}}
		for _, n := range []int64{0, 1, 3, 5000, 10000, 15000, 99999, most - 1, most} {
			want := Costs{Fee: modelRate(n, rate)}
			wantCosts(t, tier, "a", n, want)
			wantCosts(t, category, "a", n, want)
		}
		taxed := []api.Rule{{Kind: "tier", Rate: 2500}, {Kind: "tax", Rate: rate}}
		wantCosts(t, taxed, "", 60004, Costs{Fee: 15001, Tax: modelRate(15001, rate)})
	}
}

// Minimum and cap.

func TestMinimums(t *testing.T) {
	wantSales(t, "tier 0 10%; minimum 0;", sale{0, 0, 0}, sale{4, 0, 0}, sale{100, 10, 0})
	wantSales(t, "tier 0 10%; minimum 1;", sale{0, 0, 0}, sale{1, 1, 0}, sale{4, 1, 0}, sale{10, 1, 0}, sale{20, 2, 0})
	wantSales(t, "tier 0 10%; minimum 9;", sale{100, 10, 0}, sale{90, 9, 0}, sale{85, 9, 0}, sale{84, 9, 0})
	wantSales(t, "tier 0 10%; minimum 10;", sale{100, 10, 0}, sale{99, 10, 0}, sale{95, 10, 0}, sale{94, 10, 0}, sale{11, 10, 0}, sale{10, 10, 0})
	wantSales(t, "tier 0 10%; minimum 11;", sale{100, 11, 0}, sale{110, 11, 0}, sale{114, 11, 0}, sale{116, 12, 0})
	// above the amount
	wantSales(t, "tier 0 10%; minimum 10;", sale{9, 9, 0}, sale{1, 1, 0}, sale{0, 0, 0})
	wantSales(t, "tier 0 0%; minimum 1125899906842624;", sale{0, 0, 0}, sale{1, 1, 0}, sale{1000, 1000, 0}, sale{most - 1, most - 1, 0}, sale{most, most, 0})
	wantSales(t, "tier 0 0%; minimum 1125899906842623;", sale{most - 1, most - 1, 0}, sale{most, most - 1, 0})
}

func TestCaps(t *testing.T) {
	wantSales(t, "tier 0 10%; cap 0;", sale{0, 0, 0}, sale{1, 0, 0}, sale{100, 0, 0}, sale{most, 0, 0})
	wantSales(t, "tier 0 100%; cap 0; tax 100%;", sale{1, 0, 0}, sale{most, 0, 0})
	wantSales(t, "tier 0 10%; cap 9;", sale{100, 9, 0}, sale{85, 8, 0}, sale{90, 9, 0}, sale{96, 9, 0})
	wantSales(t, "tier 0 10%; cap 10;", sale{100, 10, 0}, sale{94, 9, 0}, sale{96, 10, 0}, sale{106, 10, 0}, sale{1000000, 10, 0}, sale{most, 10, 0})
	wantSales(t, "tier 0 10%; cap 11;", sale{100, 10, 0}, sale{110, 11, 0})
	wantSales(t, "tier 0 100%; cap 500;", sale{0, 0, 0}, sale{499, 499, 0}, sale{500, 500, 0}, sale{501, 500, 0})
	wantSales(t, "tier 0 100%; cap 1125899906842624;", sale{5, 5, 0}, sale{most - 1, most - 1, 0}, sale{most, most, 0})
	wantSales(t, "tier 0 100%; cap 1125899906842623;", sale{most - 1, most - 1, 0}, sale{most, most - 1, 0})
}

func TestCapsWithMinimums(t *testing.T) {
	for _, s := range []string{"tier 0 10%; cap 20; minimum 10;", "minimum 10; cap 20; tier 0 10%;"} {
		wantSales(t, s, sale{0, 0, 0}, sale{9, 9, 0}, sale{10, 10, 0}, sale{11, 10, 0}, sale{100, 10, 0}, sale{110, 11, 0}, sale{190, 19, 0}, sale{200, 20, 0}, sale{210, 20, 0}, sale{most, 20, 0})
	}
	wantSales(t, "tier 0 10%; cap 7; minimum 7;", sale{0, 0, 0}, sale{6, 6, 0}, sale{7, 7, 0}, sale{8, 7, 0}, sale{70, 7, 0}, sale{80, 7, 0}, sale{most, 7, 0})
	wantSales(t, "tier 0 10%; cap 0; minimum 0;", sale{0, 0, 0}, sale{70, 0, 0})
	wantSales(t, "tier 0 10%; cap 20; minimum 10; tax 50%;", sale{9, 9, 0}, sale{10, 10, 0}, sale{12, 10, 2}, sale{15, 10, 5}, sale{16, 10, 5}, sale{500, 20, 10})
	// A minimum above the cap is in no plan that is sound.
	wantErrArg(t, rules(t, "tier 0 10%; cap 7; minimum 8;"), "", 100)
	wantErrArg(t, rules(t, "tier 0 10%; minimum 1; cap 0;"), "", 0)
}

// A category's fee has its minimum and its cap, too.
func TestCapsAndMinimumsOfCategories(t *testing.T) {
	l := rules(t, "tier 0 50%; category books 10%; category free 0%; cap 20; minimum 10; tax 10%;")
	for _, c := range []struct {
		category string
		sale
	}{{"books", sale{5, 5, 0}}, {"books", sale{90, 10, 1}}, {"books", sale{150, 15, 2}}, {"books", sale{300, 20, 2}}, {"free", sale{5, 5, 0}}, {"free", sale{300, 10, 1}}, {"", sale{30, 15, 2}}, {"", sale{300, 20, 2}}} {
		wantCosts(t, l, c.category, c.amount, Costs{Fee: c.fee, Tax: c.tax})
	}
}

// The first one of each kind counts, as a caller may hand in others of other names.
func TestTheFirstOneCounts(t *testing.T) {
	rule := func(kind, name string, n, rate int64) api.Rule {
		return api.Rule{Kind: kind, Name: name, N: n, Rate: rate}
	}
	tier := rule("tier", "", 0, 1000)
	for _, names := range [][]string{{"", "a", "b"}, {"a", "", "b"}, {"b", "a", ""}} {
		a, b, c := names[0], names[1], names[2]
		wantCosts(t, []api.Rule{tier, rule("cap", a, 5, 0), rule("cap", b, 3, 0), rule("cap", c, 9, 0)}, "", 1000, Costs{Fee: 5})
		wantCosts(t, []api.Rule{rule("cap", a, 5, 0), rule("cap", b, 3, 0), tier, rule("cap", c, 9, 0)}, "a", 1000, Costs{Fee: 5})
		wantCosts(t, []api.Rule{tier, rule("minimum", a, 5, 0), rule("minimum", b, 3, 0), rule("minimum", c, 9, 0)}, "", 10, Costs{Fee: 5})
		wantCosts(t, []api.Rule{rule("minimum", a, 5, 0), rule("minimum", b, 9, 0), tier, rule("minimum", c, 3, 0)}, "a", 10, Costs{Fee: 5})
		wantCosts(t, []api.Rule{tier, rule("tax", a, 9, 5000), rule("tax", b, 8, 3000), rule("tax", c, 7, 10000)}, "", 100, Costs{Fee: 10, Tax: 5})
		wantCosts(t, []api.Rule{rule("tax", a, 0, 0), rule("tax", b, 8, 3000), tier, rule("tax", c, 7, 10000)}, "", 100, Costs{Fee: 10})
		wantCosts(t, []api.Rule{tier, rule("reserve", a, 5, 60), rule("reserve", b, 4, 70), rule("reserve", c, 6, 50)}, "", 100, Costs{10, 0, 60, 5})
		wantCosts(t, []api.Rule{rule("reserve", a, 0, 60), rule("reserve", b, 4, 70), tier}, "", 100, Costs{10, 0, 60, 0})
		wantCosts(t, []api.Rule{rule("reserve", a, 5, 0), rule("reserve", b, 4, 70), tier}, "", 100, Costs{10, 0, 0, 5})
		// A minimum may be above a cap that isn't the first, or the other way.
		wantCosts(t, []api.Rule{tier, rule("cap", a, 9, 0), rule("cap", b, 3, 0), rule("minimum", c, 7, 0)}, "", 10, Costs{Fee: 7})
		wantCosts(t, []api.Rule{tier, rule("minimum", a, 4, 0), rule("minimum", b, 8, 0), rule("cap", c, 7, 0)}, "", 10, Costs{Fee: 4})
		wantCosts(t, []api.Rule{tier, rule("minimum", a, 4, 0), rule("minimum", b, 8, 0), rule("cap", c, 7, 0)}, "", 100, Costs{Fee: 7})
	}
}

// Tax.

func TestTaxes(t *testing.T) {
	wantSales(t, "tier 0 10%;", sale{1000, 100, 0})
	wantSales(t, "tier 0 10%; tax 0%;", sale{0, 0, 0}, sale{1000, 100, 0}, sale{most, 112589990684262, 0})
	wantSales(t, "tier 0 10%; tax 100%;", sale{0, 0, 0}, sale{1, 0, 0}, sale{1000, 100, 100}, sale{most, 112589990684262, 112589990684262})
	wantSales(t, "tier 0 0%; tax 100%;", sale{0, 0, 0}, sale{1000, 0, 0}, sale{most, 0, 0})
	// It is less than what the fee leaves, as much, and more.
	wantSales(t, "tier 0 60%; tax 50%;", sale{100, 60, 30})
	wantSales(t, "tier 0 60%; tax 65%;", sale{100, 60, 39})
	wantSales(t, "tier 0 60%; tax 66.67%;", sale{100, 60, 40})
	wantSales(t, "tier 0 60%; tax 70%;", sale{100, 60, 40})
	wantSales(t, "tier 0 60%; tax 100%;", sale{100, 60, 40}, sale{most, 675539944105574, 450359962737050})
	wantSales(t, "tier 0 99.99%; tax 100%;", sale{10000, 9999, 1})
	wantSales(t, "tier 0 100%; tax 100%;", sale{10000, 10000, 0})
	wantSales(t, "tier 0 100%; tax 0.01%;", sale{10000, 10000, 0}, sale{most, most, 0})
	wantSales(t, "tier 0 0%; minimum 50; tax 20%;", sale{49, 49, 0}, sale{50, 50, 0}, sale{51, 50, 1}, sale{59, 50, 9}, sale{60, 50, 10}, sale{61, 50, 10}, sale{70, 50, 10})
}

// A tax is of the fee as minimum, cap and amount made it; it is itself under none of them.
func TestTaxesOfFeesThatWereBound(t *testing.T) {
	wantSales(t, "tier 0 10%; cap 50; tax 100%;", sale{1000, 50, 50}, sale{100, 10, 10})
	wantSales(t, "tier 0 10%; minimum 50; tax 10%;", sale{100, 50, 5}, sale{1000, 100, 10})
	wantSales(t, "tier 0 1%; minimum 50; cap 50; tax 10%;", sale{100, 50, 5}, sale{53, 50, 3}, sale{40, 40, 0})
	wantSales(t, "tier 0 50%; cap 5; tax 100%;", sale{7, 4, 3}, sale{8, 4, 4}, sale{9, 4, 4}, sale{10, 5, 5}, sale{100, 5, 5})
}

// Hold and Ticks.

func TestReserves(t *testing.T) {
	for _, n := range []int64{0, 1, 15, 1000, most} {
		wantCosts(t, rules(t, "tier 0 0%;"), "", n, Costs{})
		for _, rate := range []int64{0, 1, 1000, 9999, 10000} {
			for _, ticks := range []int64{0, 1, 30, 999, 1000} {
				r := api.Rule{Kind: "reserve", N: ticks, Rate: rate}
				want := Costs{Fee: n, Hold: rate, Ticks: ticks}
				wantCosts(t, []api.Rule{{Kind: "tier", Rate: 10000}, r}, "", n, want)
				wantCosts(t, []api.Rule{r, {Kind: "tier", Rate: 10000}}, "a", n, want)
				r.Name = "a"
				wantCosts(t, []api.Rule{{Kind: "tier", Rate: 10000}, r, {Kind: "tier", N: most}}, "a", n, Costs{Fee: n % most, Hold: rate, Ticks: ticks})
			}
		}
	}
}

// Against a model, with P11.2.

// modelRate is a rate of an amount, by numbers of any size.
func modelRate(n, rate int64) int64 {
	twice := new(big.Int).Mul(big.NewInt(2*n), big.NewInt(rate)) // twice as many ten thousandths
	q, r := new(big.Int).QuoRem(twice, big.NewInt(20000), new(big.Int))
	if r.Int64() > 10000 || r.Int64() == 10000 && q.Bit(0) == 1 {
		return q.Int64() + 1
	}
	return q.Int64()
}

// modelFirst is the place of the first rule of a kind, or below 0.
func modelFirst(l []api.Rule, kind string) int {
	return slices.IndexFunc(l, func(r api.Rule) bool { return r.Kind == kind })
}

// modelFee is a sale's fee, by a sound plan.
func modelFee(l []api.Rule, category string, n int64) int64 {
	at := slices.IndexFunc(l, func(r api.Rule) bool { return r.Kind == "category" && r.Name == category })
	for i := len(l) - 1; at < 0; i-- {
		if l[i].Kind == "tier" && l[i].N <= n {
			at = i
		}
	}
	fee := modelRate(n, l[at].Rate)
	if i := modelFirst(l, "minimum"); i >= 0 && fee < l[i].N {
		fee = l[i].N
	}
	if i := modelFirst(l, "cap"); i >= 0 && fee > l[i].N {
		fee = l[i].N
	}
	if fee > n {
		fee = n
	}
	return fee
}

func model(l []api.Rule, category string, n int64) (Costs, api.Errno) {
	if _, e := sound.Check(l...); e != api.OK || uint64(n) > 1<<50 {
		return Costs{}, api.ErrArg
	}
	c := Costs{Fee: modelFee(l, category, n)}
	if i := modelFirst(l, "tax"); i >= 0 {
		c.Tax = modelRate(c.Fee, l[i].Rate)
		if c.Fee+c.Tax > n {
			c.Tax = n - c.Fee
		}
	}
	if i := modelFirst(l, "reserve"); i >= 0 {
		c.Hold, c.Ticks = l[i].Rate, l[i].N
	}
	return c, api.OK
}

// holdAgainstModel also answers the costs, and their error.
func holdAgainstModel(t *testing.T, l []api.Rule, category string, n int64) (Costs, api.Errno) {
	t.Helper()
	c, e := Of(l, category, n)
	if want, wantE := model(l, category, n); c != want || e != wantE {
		t.Fatalf("Of(%q, %q, %d) = %v, %d, want %v, %d", fmt.Sprint(l), category, n, c, e, want, wantE)
	}
	if c.Fee < 0 || c.Tax < 0 || e == api.OK && c.Fee+c.Tax > n {
		t.Fatalf("Of(%q, %q, %d): a fee of %d, a tax of %d", fmt.Sprint(l), category, n, c.Fee, c.Tax)
	}
	return c, e
}

// TestEachShortPlan goes through each list of up to three rules of some sorts, with small amounts, and with great ones.
func TestEachShortPlan(t *testing.T) {
	sorts := []api.Rule{
		{Kind: "tier", Rate: 1000}, {Kind: "tier", N: 5, Rate: 5000}, {Kind: "tier", N: 5, Rate: 0}, {Kind: "tier", N: most, Rate: 10000},
		{Kind: "category", Name: "x", Rate: 2500}, {Kind: "category", Name: "", Rate: 10000},
		{Kind: "cap"}, {Kind: "cap", N: 3}, {Kind: "cap", Name: "x", N: 4}, {Kind: "minimum", N: 2}, {Kind: "minimum", Name: "x", N: 6}, {Kind: "minimum", N: most},
		{Kind: "tax", Rate: 5000}, {Kind: "tax", Name: "x", Rate: 10000}, {Kind: "reserve", N: 1000, Rate: 100}, {Kind: "reserve", N: 1001}, {Kind: "what"},
	}
	amounts := []int64{-1, 0, 1, 2, 3, 4, 5, 6, 7, 9, 10, 15, 25, most - 1, most, most + 1}
	var all func(l []api.Rule)
	all = func(l []api.Rule) {
		for _, n := range amounts {
			holdAgainstModel(t, l, "x", n)
			holdAgainstModel(t, l, "", n)
			holdAgainstModel(t, l, "y", n)
		}
		for i := 0; len(l) < 3 && i < len(sorts); i++ {
			all(append(slices.Clone(l), sorts[i]))
		}
	}
	all(nil)
	for _, a := range sorts[4:] { // behind a first tier three more
		for _, b := range sorts[4:] {
			for _, c := range sorts[4:] {
				for _, n := range amounts {
					holdAgainstModel(t, []api.Rule{sorts[0], a, b, c}, "x", n)
				}
			}
		}
	}
}

// anyAmount is one of any size, seldom one that may not be.
func anyAmount(r *rand.Rand) int64 {
	if r.IntN(20) == 0 {
		return []int64{-1, 0, most, most + 1, math.MaxInt64, math.MinInt64}[r.IntN(6)]
	}
	return r.Int64N(most+1) >> r.IntN(51)
}

// anyRate is one of any size, often one at an edge.
func anyRate(r *rand.Rand) int64 {
	if r.IntN(4) == 0 {
		return []int64{0, 1, 5000, 9999, 10000}[r.IntN(5)]
	}
	return r.Int64N(10001) >> r.IntN(8)
}

// anyPlan is one that is mostly sound.
func anyPlan(r *rand.Rand) []api.Rule {
	l := []api.Rule{{Kind: "tier", Rate: anyRate(r)}}
	tier, few := int64(0), []string{"", "a", "b", "c"}
	for range r.IntN(9) {
		x := api.Rule{Rate: anyRate(r), Name: few[r.IntN(4)]}
		switch r.IntN(8) {
		case 0, 1:
			tier += 1 + r.Int64N(1000)<<r.IntN(30)
			x.Kind, x.N = "tier", tier
		case 2, 3:
			x.Kind, x.N = "category", r.Int64N(10)
		case 4:
			x.Kind, x.N = "cap", r.Int64N(most+1)>>r.IntN(51)
		case 5:
			x.Kind, x.N = "minimum", r.Int64N(most+1)>>(10+r.IntN(41))
		case 6:
			x.Kind, x.N = "tax", r.Int64N(10)
		default:
			x.Kind, x.N = "reserve", r.Int64N(1001)
		}
		at := len(l)
		if x.Kind != "tier" {
			at = r.IntN(len(l) + 1)
		}
		l = slices.Insert(l, at, x)
	}
	return l
}

func TestRandomPlansAgainstModel(t *testing.T) {
	r := rand.New(rand.NewPCG(11, 1))
	counts := map[string]int{}
	for range 60000 {
		l, n := anyPlan(r), anyAmount(r)
		kept := slices.Clone(l)
		for _, category := range []string{"", "a", "other"} {
			c, e := holdAgainstModel(t, l, category, n)
			again, f := Of(l, category, n)
			if c != again || e != f {
				t.Fatalf("asked again %v, %d, not %v, %d", again, f, c, e)
			}
			switch {
			case e != api.OK:
				counts["wrong"]++
			case c.Fee == n && n > 0:
				counts["all"]++
			case c.Tax > 0 && c.Fee+c.Tax == n:
				counts["tax of all that is left"]++
			case c.Tax > 0:
				counts["taxed"]++
			case c.Fee > 0:
				counts["a fee alone"]++
			default:
				counts["free"]++
			}
		}
		if !slices.Equal(l, kept) {
			t.Fatalf("the list is %v, want %v", l, kept)
		}
	}
	for _, sort := range []string{"wrong", "all", "tax of all that is left", "taxed", "a fee alone", "free"} {
		if counts[sort] < 1000 {
			t.Errorf("only %d sales of sort %q", counts[sort], sort)
		}
	}
}

// P1, P2, and the rules that hold everywhere.

func TestTheListStays(t *testing.T) {
	whole := append(rules(t, "tier 0 10%; category books 1%; tax 20%;"), rules(t, "cap 5; minimum 5; tier 50 100%; reserve 10% 30; category toys 3%;")...)
	kept := slices.Clone(whole)
	for range 3 {
		// What lies behind the list's length isn't read.
		wantCosts(t, whole[:3], "", 100, Costs{Fee: 10, Tax: 2})
		wantCosts(t, whole[:3], "books", 100, Costs{Fee: 1, Tax: 0})
		wantCosts(t, whole[:3], "toys", 1000, Costs{Fee: 100, Tax: 20})
		wantErrArg(t, whole[:0], "", 100)
		wantErrArg(t, whole[:3], "", -1)
		wantErrArg(t, whole[:3], "", most+1)
		wantErrArg(t, whole[1:3], "books", 5)
		wantCosts(t, whole, "", 100, Costs{5, 1, 1000, 30})
		if !slices.Equal(whole, kept) {
			t.Fatalf("the list is %v, want %v", whole, kept)
		}
	}
}

func TestOneCallSaysNothingToTheNext(t *testing.T) {
	plans := []string{"tier 0 10%; cap 50; tax 20%; reserve 5% 7;", "tier 0 20%; minimum 3;", "tier 0 0%; category a 50%;"}
	want := []Costs{{50, 10, 500, 7}, {200, 0, 0, 0}, {500, 0, 0, 0}}
	for range 3 {
		for i, s := range plans {
			wantCosts(t, rules(t, s), "a", 1000, want[i])
			wantErrArg(t, nil, "a", 1000)
		}
	}
}

func TestLongPlans(t *testing.T) {
	n := 1 << 17
	l := []api.Rule{{Kind: "tier", Rate: 1000}}
	for i := range n {
		l = append(l, api.Rule{Kind: "category", Name: strconv.Itoa(i), Rate: int64(i) % 10001})
	}
	wantCosts(t, l, "none", 100, Costs{Fee: 10})
	for _, i := range []int{0, 9999, 10000, n - 1} {
		wantCosts(t, l, strconv.Itoa(i), 10000, Costs{Fee: int64(i) % 10001})
	}
	wantErrArg(t, append(l, l[1]), "none", 100)
	wantErrArg(t, l[1:], "0", 100)
	wantCosts(t, l, strings.Repeat("0", 1<<20), 100, Costs{Fee: 10})
}
