package audit

import (
	"fmt"
	"slices"
	"testing"

	"souk/api"
	"souk/basis"
	"souk/book"
	"souk/gate"
)

// P22.1: Of.

func TestOfNothing(t *testing.T) {
	for _, currency := range currencies {
		checkOf(t, nil, currency, Totals{}, api.OK)
		checkOf(t, []book.Line{}, currency, Totals{}, api.OK)
	}
}

// One line of each kind: its total, and no other one, is its amount, of clearing and debt 0 less that.
func TestOfOneLine(t *testing.T) {
	for _, n := range []int64{0, 1, -1, 5, -5, 1000, greatest, -greatest} {
		for _, kind := range added {
			checkOf(t, eur(kind, n), "EUR", only(kind, n), api.OK)
		}
		for _, kind := range subtracted {
			checkOf(t, eur(kind, n), "EUR", only(kind, -n), api.OK)
		}
	}
	for _, kind := range added {
		checkOf(t, eur(kind, least), "EUR", only(kind, least), api.OK)
	}
	for _, kind := range subtracted {
		checkOf(t, eur(kind, least), "EUR", Totals{}, api.ErrOver)
	}
}

// many are lines of all kinds, some of several accounts, and some of the same one, in two currencies.
func many() []book.Line {
	return []book.Line{
		line("available", "ann", "EUR", 1), line("available", "bob", "EUR", 20), line("available", "ann", "USD", 300),
		line("clearing", "", "EUR", -4000), line("clearing", "", "EUR", -5), line("clearing", "", "USD", -60),
		line("debt", "ann", "EUR", -700), line("debt", "cy", "EUR", -8), line("debt", "cy", "USD", 90),
		line("fee", "", "EUR", 11), line("fee", "", "EUR", -12), line("fee", "", "USD", 13),
		line("flight", "ann", "EUR", 1400), line("flight", "ann", "EUR", 15), line("flight", "bob", "USD", -16),
		line("paid", "bob", "EUR", 17000), line("paid", "bob", "EUR", 0), line("paid", "bob", "USD", 18),
		line("reserve", "ann", "EUR", -190), line("reserve", "bob", "EUR", 200000), line("reserve", "bob", "USD", 21),
		line("tax", "", "EUR", 22), line("tax", "", "EUR", 23), line("tax", "", "USD", 24),
	}
}

func TestOfMany(t *testing.T) {
	want := map[string]Totals{
		"EUR": {Net: 4005, Fee: -1, Tax: 45, Available: 21, Reserve: 199810, Flight: 1415, Paid: 17000, Debt: 708},
		"USD": {Net: 60, Fee: 13, Tax: 24, Available: 300, Reserve: 21, Flight: -16, Paid: 18, Debt: -90},
	}
	for _, currency := range currencies {
		l := many()
		checkOf(t, l, currency, want[currency], api.OK)
		slices.Reverse(l)
		checkOf(t, l, currency, want[currency], api.OK)
		for seed := range uint64(50) {
			random(seed).Shuffle(len(l), func(i, j int) { l[i], l[j] = l[j], l[i] })
			checkOf(t, l, currency, want[currency], api.OK)
		}
	}
}

// A currency is the very same text, whatever it is.
func TestOfCurrencies(t *testing.T) {
	var l []book.Line
	for i, currency := range currencies {
		for _, kind := range kinds {
			l = append(l, line(kind, "ann", currency, -int64(i+1)))
		}
	}
	for i, currency := range currencies {
		n := int64(i + 1)
		checkOf(t, l, currency, Totals{Net: n, Fee: -n, Tax: -n, Available: -n, Reserve: -n, Flight: -n, Paid: -n, Debt: n}, api.OK)
	}
	checkOf(t, l, "GBP", Totals{}, api.OK)
}

// Lines of other kinds are in no total, and their sum may be any.
func TestOfOtherKinds(t *testing.T) {
	var l []book.Line
	for _, kind := range noKinds {
		for _, n := range []int64{greatest, greatest, least, least, least, 1} {
			l = append(l, line(kind, "", "EUR", n), line(kind, "ann", "EUR", n))
		}
		checkOf(t, l, "EUR", Totals{}, api.OK)
	}
	for _, kind := range kinds {
		want := only(kind, -3)
		if slices.Contains(subtracted, kind) {
			want = only(kind, 3)
		}
		checkOf(t, append(slices.Clone(l), eur(kind, -3)...), "EUR", want, api.OK)
	}
}

// Only a line's kind and currency decide: not its party, nor whether such an account may be.
func TestOfAnyParty(t *testing.T) {
	for _, kind := range kinds {
		l := []book.Line{line(kind, "", "EUR", -1), line(kind, "ann", "EUR", -20), line(kind, "\xff", "EUR", -300), line(kind, "fee", "EUR", -4000)}
		want := int64(-4321)
		if slices.Contains(subtracted, kind) {
			want = 4321
		}
		for _, o := range orders(l) {
			checkOf(t, o, "EUR", only(kind, want), api.OK)
		}
	}
}

// over are amounts of one kind, those that are added as they stand, those that are subtracted likewise: where a sum up to one is none, though the whole may be.
var (
	overAdded = [][]int64{
		{greatest, 1}, {1, greatest}, {greatest, 1, -1}, {greatest, 1, -1, least}, {1 << 62, 1 << 62}, {1 << 62, 1 << 62, -1},
		{least, -1}, {-1, least}, {least, -1, 1}, {least, least, greatest, greatest}, {-1 << 62, -1 << 62, -1, 1}, {5, -5, 0, greatest, greatest},
	}
	overSubtracted = [][]int64{
		{least}, {0, least}, {least, greatest}, {least, 1}, {-greatest, -1}, {-1, -greatest}, {-greatest, -1, 1}, {-1 << 62, -1 << 62, 1},
		{greatest, 1, 1}, {greatest, 2}, {greatest, greatest}, {greatest, 2, -1}, {1, least, -1}, {1, least, -1, 1}, {-5, 5, 0, least},
	}
)

func TestOfOver(t *testing.T) {
	for _, kind := range kinds {
		rows := overAdded
		if slices.Contains(subtracted, kind) {
			rows = overSubtracted
		}
		for _, row := range rows {
			l := eur(kind, row...)
			checkOf(t, l, "EUR", Totals{}, api.ErrOver)
			checkOf(t, l, "USD", Totals{}, api.OK)
			// Beside others, ahead and behind, the totals of which are amounts.
			checkOf(t, append(many(), l...), "USD", Totals{Net: 60, Fee: 13, Tax: 24, Available: 300, Reserve: 21, Flight: -16, Paid: 18, Debt: -90}, api.OK)
			for i := range l {
				l[i].Party = fmt.Sprint(i)
			}
			others := []book.Line{line("net", "", "EUR", least), line("fee", "", "USD", greatest)}
			for _, other := range kinds {
				if other != kind {
					others = append(others, line(other, "bob", "EUR", 5))
				}
			}
			checkOf(t, append(slices.Clone(others), l...), "EUR", Totals{}, api.ErrOver)
			checkOf(t, append(slices.Clone(l), others...), "EUR", Totals{}, api.ErrOver)
		}
	}
}

// Up to the greatest and least amounts nothing runs over, since each kind has a total of its own.
func TestOfEdges(t *testing.T) {
	for _, x := range []struct {
		amounts []int64
		want    int64
	}{
		{[]int64{greatest, least}, -1}, {[]int64{greatest, -1, 1}, greatest}, {[]int64{greatest - 1, 1, 0}, greatest},
		{[]int64{least + 1, -1}, least}, {[]int64{least, greatest, 1, least}, least}, {[]int64{least, 1, -1}, least},
	} {
		for _, kind := range added {
			checkOf(t, eur(kind, x.amounts...), "EUR", only(kind, x.want), api.OK)
		}
	}
	for _, x := range []struct {
		amounts []int64
		want    int64
	}{
		{[]int64{1, least}, greatest}, {[]int64{greatest, 1}, least}, {[]int64{greatest, 1, -1}, -greatest}, {[]int64{-greatest, greatest}, 0},
		{[]int64{greatest, least}, 1}, {[]int64{1 << 62, 1 << 62}, least}, {[]int64{greatest, 1, least, 1, least}, greatest},
	} {
		for _, kind := range subtracted {
			checkOf(t, eur(kind, x.amounts...), "EUR", only(kind, x.want), api.OK)
		}
	}
	var l []book.Line
	for _, kind := range kinds {
		l = append(l, line(kind, "", "EUR", greatest), line(kind, "", "USD", greatest))
	}
	checkOf(t, l, "EUR", Totals{-greatest, greatest, greatest, greatest, greatest, greatest, greatest, -greatest}, api.OK)
}

// Any lines, against the model.
func TestOfAny(t *testing.T) {
	errors := map[api.Errno]int{}
	for seed := range uint64(20000) {
		r := random(seed)
		few := []string{anyOf(r, kinds...), anyOf(r, kinds...), anyOf(r, kinds...), anyOf(r, noKinds...)}
		l := make([]book.Line, r.IntN(14))
		for i := range l {
			l[i] = line(anyOf(r, few...), anyOf(r, "", "ann", "bob"), anyOf(r, "EUR", "EUR", "USD", ""), anyAmount(r))
		}
		currency := anyOf(r, "EUR", "EUR", "USD", "", "GBP")
		want, e := totalsOf(l, currency)
		checkOf(t, l, currency, want, e)
		errors[e]++
	}
	if errors[api.OK] < 5000 || errors[api.ErrOver] < 1000 {
		t.Fatal(errors)
	}
}

// P22.1: Even.

func TestEven(t *testing.T) {
	for _, x := range []Totals{
		{},
		{Net: 1000, Fee: 100, Available: 900},
		{Net: 1, Fee: 1}, {Net: 1, Tax: 1}, {Net: 1, Available: 1}, {Net: 1, Reserve: 1}, {Net: 1, Flight: 1}, {Net: 1, Paid: 1}, {Net: -1, Debt: 1}, {Net: 1, Debt: -1}, {Paid: 5, Debt: 5},
		{Net: 21 - 7, Fee: 1, Tax: 2, Available: 3, Reserve: 4, Flight: 5, Paid: 6, Debt: 7},
		{Net: -14, Fee: -1, Tax: -2, Available: -3, Reserve: -4, Flight: -5, Paid: -6, Debt: -7},
		{Net: greatest, Fee: greatest}, {Net: least, Paid: least}, {Net: least, Debt: greatest, Tax: -1}, {Net: greatest, Debt: least, Flight: -1}, {Debt: least, Reserve: least},
		{Net: greatest - 6, Fee: -1, Tax: greatest, Debt: 5}, {Net: greatest, Fee: greatest, Tax: least, Available: greatest, Reserve: 1},
	} {
		if !x.Even() {
			t.Fatal(x, "is not even")
		}
		for _, kind := range kinds {
			for _, more := range []int64{1, -1} {
				y := x
				*total(&y, kind) += more
				if y.Even() {
					t.Fatal(y, "is even")
				}
			}
		}
	}
}

// One of the totals runs over, at each place, though the rest would bring it back; and a sum that is none is not 0.
func TestEvenOver(t *testing.T) {
	for i := range added {
		for j := i + 1; j < len(added); j++ {
			for _, edge := range []int64{greatest, least} {
				one := int64(1)
				if edge < 0 {
					one = -1
				}
				x := Totals{}
				*total(&x, added[i]), *total(&x, added[j]) = edge, one
				for _, x.Net = range []int64{0, edge, one, edge - one, edge + one} {
					for _, x.Debt = range []int64{0, one, -one, edge, -edge} {
						notEven(t, x)
					}
				}
				// Brought back by a later part.
				for k := j + 1; k < len(added); k++ {
					y := x
					*total(&y, added[k]) = -one
					y.Debt = 0
					for _, y.Net = range []int64{edge, 0} {
						notEven(t, y)
					}
				}
				// Ahead of the one that runs over it does no harm.
				for k := range j {
					if k != i {
						y := x
						*total(&y, added[k]) = -one
						y.Debt, y.Net = 0, edge
						if !y.Even() {
							t.Fatal(y, "is not even")
						}
					}
				}
			}
		}
	}
	for _, x := range []Totals{
		{Fee: greatest, Debt: -1}, {Fee: greatest, Debt: -1, Net: greatest}, {Fee: greatest, Debt: -1, Net: least}, {Fee: 1, Debt: -greatest}, {Debt: least}, {Debt: least, Net: least},
		{Paid: least, Debt: 1}, {Paid: least, Debt: 1, Net: greatest}, {Paid: -2, Debt: greatest}, {Paid: -2, Debt: greatest, Net: greatest},
	} {
		notEven(t, x)
	}
}

func notEven(t *testing.T, x Totals) {
	t.Helper()
	if x.Even() || evenOf(x) {
		t.Fatal(x, "is even")
	}
}

// Any totals, with a Net that would make them even, by layer 1 or by sums that wrap round.
func TestEvenAny(t *testing.T) {
	even := map[bool]int{}
	for seed := range uint64(100000) {
		r := random(seed)
		var x Totals
		for _, kind := range kinds {
			*total(&x, kind) = anyAmount(r)
		}
		if r.IntN(4) > 0 {
			x.Net = x.Fee + x.Tax + x.Available + x.Reserve + x.Flight + x.Paid - x.Debt
		}
		was := x
		if got := x.Even(); got != evenOf(x) || x != was {
			t.Fatal(x, got)
		}
		even[x.Even()]++
	}
	if even[true] < 10000 || even[false] < 10000 {
		t.Fatal(even)
	}
}

// P22.1: Take.

func TestTake(t *testing.T) {
	for _, x := range []struct {
		fee, net int64
		want     string
	}{
		{0, 0, "-"}, {1, 0, ">"}, {-1, 0, "<"}, {greatest, 0, ">"}, {least, 0, "<"},
		{0, 1, "0.00%"}, {0, -1, "0.00%"}, {0, greatest, "0.00%"}, {0, least, "0.00%"},
		{100, 1000, "10.00%"}, {29, 1000, "2.90%"}, {1, 3, "33.33%"}, {2, 3, "66.67%"}, {1, 20000, "0.00%"}, {1, 10000, "0.01%"},
		{5, 5, "100.00%"}, {6, 5, ">"}, {10000, 9999, ">"}, {1000001, 1000000, "100.00%"},
		{-1, 5, "<"}, {1, -5, "<"}, {-1, -5, "20.00%"}, {-6, -5, ">"}, {-1, greatest, "<"},
		{greatest, greatest, "100.00%"}, {least, least, "100.00%"}, {greatest, least, "<"}, {least, greatest, "<"}, {1, greatest, "0.00%"}, {greatest, 1, ">"}, {least, 1, "<"}, {1 << 62, greatest, "50.00%"},
	} {
		// No other part counts.
		for _, y := range []Totals{{Net: x.net, Fee: x.fee}, {x.net, x.fee, 7, -7, greatest, least, 1, 1000}} {
			if got := y.Take(); got != x.want || got != basis.Text(basis.Ratio(x.fee, x.net)) {
				t.Fatalf("Take of %d by %d: %s, not %s", x.fee, x.net, got, x.want)
			}
		}
	}
	for seed := range uint64(20000) {
		r := random(seed)
		x := Totals{Net: anyAmount(r), Fee: anyAmount(r)}
		if got, want := x.Take(), basis.Text(basis.Ratio(x.Fee, x.Net)); got != want {
			t.Fatal(x, got, want)
		}
	}
}

// P22.1: Moved.

func record(currency string, n int64, moved bool) gate.Record {
	return gate.Record{Key: "1/" + currency + "/ann", Party: "ann", Currency: currency, Amount: n, Moved: moved}
}

func TestMoved(t *testing.T) {
	for _, currency := range currencies {
		checkMoved(t, nil, currency, 0, api.OK)
		checkMoved(t, []gate.Record{}, currency, 0, api.OK)
	}
	for _, n := range []int64{0, 1, -1, 5, -5, greatest, least} {
		checkMoved(t, []gate.Record{record("EUR", n, true)}, "EUR", n, api.OK)
		checkMoved(t, []gate.Record{record("EUR", n, false)}, "EUR", 0, api.OK)
		checkMoved(t, []gate.Record{record("EUR", n, true)}, "USD", 0, api.OK)
	}
	// The key, the party and whether it is told twice don't matter.
	l := []gate.Record{
		record("EUR", 1, true), record("EUR", 20, false), record("USD", 300, true), record("EUR", 4000, true), record("USD", 50000, false), record("EUR", -2, true), record("EUR", 1, true),
		{Currency: "EUR", Amount: 600000, Moved: true}, {Key: "EUR", Party: "EUR", Amount: 7000000, Moved: true},
	}
	for _, x := range []struct {
		currency string
		want     int64
	}{{"EUR", 604000}, {"USD", 300}, {"", 7000000}, {"GBP", 0}, {"eur", 0}} {
		checkMoved(t, l, x.currency, x.want, api.OK)
		slices.Reverse(l)
		checkMoved(t, l, x.currency, x.want, api.OK)
	}
}

func TestMovedOver(t *testing.T) {
	for _, row := range overAdded {
		var l, still, other []gate.Record
		for _, n := range row {
			l = append(l, record("EUR", n, true))
			still = append(still, record("EUR", n, false))
			other = append(other, record("USD", n, true))
		}
		checkMoved(t, l, "EUR", 0, api.ErrOver)
		checkMoved(t, append(slices.Clone(still), other...), "EUR", 0, api.OK)
		checkMoved(t, slices.Concat(still, other, []gate.Record{record("EUR", 0, true)}, l), "EUR", 0, api.ErrOver)
		checkMoved(t, slices.Concat(l, still, other), "EUR", 0, api.ErrOver)
	}
	for _, x := range []struct {
		l    []int64
		want int64
	}{{[]int64{greatest, least}, -1}, {[]int64{greatest, -1, 1}, greatest}, {[]int64{least, 1, -1, greatest}, -1}, {[]int64{1 << 62, 1<<62 - 1}, greatest}} {
		var l []gate.Record
		for _, n := range x.l {
			l = append(l, record("EUR", n, true), record("EUR", greatest, false), record("USD", least, true))
		}
		checkMoved(t, l, "EUR", x.want, api.OK)
	}
}

func TestMovedAny(t *testing.T) {
	errors := map[api.Errno]int{}
	for seed := range uint64(20000) {
		r := random(seed)
		l := make([]gate.Record, r.IntN(14))
		for i := range l {
			l[i] = record(anyOf(r, "EUR", "EUR", "USD", ""), anyAmount(r), r.IntN(3) > 0)
		}
		currency := anyOf(r, "EUR", "EUR", "USD", "", "GBP")
		want, e := movedOf(l, currency)
		checkMoved(t, l, currency, want, e)
		errors[e]++
	}
	if errors[api.OK] < 5000 || errors[api.ErrOver] < 1000 {
		t.Fatal(errors)
	}
}
