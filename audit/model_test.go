package audit

import (
	"fmt"
	"math"
	"math/big"
	"math/rand/v2"
	"reflect"
	"slices"
	"testing"

	"souk/api"
	"souk/book"
	"souk/gate"
)

// What the tests stand on: models by numbers of any size, and without a map.

const (
	least    = math.MinInt64
	greatest = math.MaxInt64
)

// The kinds of accounts: those whose balances are added, and those whose are subtracted.
var (
	added      = []string{"fee", "tax", "available", "reserve", "flight", "paid"}
	subtracted = []string{"clearing", "debt"}
	kinds      = append(slices.Clone(added), subtracted...)
)

// noKinds are texts that are no account's kind.
var noKinds = []string{"", " ", "net", "Net", "FEE", "fees", "fe", " fee", "fee ", "fee\x00", "debit", "Debt", "clearin", "clearingfee", "held", "\xff"}

// currencies are some, as texts that differ in a byte, or are none.
var currencies = []string{"EUR", "USD", "eur", "EUR ", "EU", "EURO", "", "\xff"}

// edges are amounts at which sums begin to be none, and some others.
var edges = []int64{0, 0, 1, -1, 2, -2, 7, -7, 1000, -1000, 1 << 62, -1 << 62, greatest - 1, greatest, greatest, least + 1, least, least}

func anyOf[T any](r *rand.Rand, l ...T) T { return l[r.IntN(len(l))] }

func random(seed uint64) *rand.Rand { return rand.New(rand.NewPCG(seed, 22)) }

// anyAmount is one at an edge, or a small one.
func anyAmount(r *rand.Rand) int64 {
	return anyOf(r, anyOf(r, edges...), anyOf(r, edges...), r.Int64N(2001)-1000)
}

// sum is an amount, that is added to; it tells whether it was one throughout.
type sum struct {
	n  *big.Int
	ok bool
}

func nought() *sum { return &sum{new(big.Int), true} }

func (s *sum) add(n int64) {
	s.n.Add(s.n, big.NewInt(n))
	s.ok = s.ok && s.n.IsInt64()
}

func (s *sum) less(n int64) {
	s.n.Sub(s.n, big.NewInt(n))
	s.ok = s.ok && s.n.IsInt64()
}

func (s *sum) told() (int64, api.Errno) {
	if !s.ok {
		return 0, api.ErrOver
	}
	return s.n.Int64(), api.OK
}

// total is the one of a kind.
func total(t *Totals, kind string) *int64 {
	switch kind {
	case "clearing":
		return &t.Net
	case "debt":
		return &t.Debt
	case "fee":
		return &t.Fee
	case "tax":
		return &t.Tax
	case "available":
		return &t.Available
	case "reserve":
		return &t.Reserve
	case "flight":
		return &t.Flight
	case "paid":
		return &t.Paid
	}
	panic(kind)
}

// totalsOf is what Of should answer: kind by kind.
func totalsOf(l []book.Line, currency string) (Totals, api.Errno) {
	var t Totals
	for _, kind := range kinds {
		s := nought()
		for _, x := range l {
			switch {
			case x.Kind != kind || x.Currency != currency:
			case slices.Contains(subtracted, kind):
				s.less(x.Amount)
			default:
				s.add(x.Amount)
			}
		}
		n, e := s.told()
		if e != api.OK {
			return Totals{}, e
		}
		*total(&t, kind) = n
	}
	return t, api.OK
}

// evenOf is what Even should answer.
func evenOf(t Totals) bool {
	s := nought()
	for _, kind := range added {
		s.add(*total(&t, kind))
	}
	s.less(t.Debt)
	return s.ok && s.n.Int64() == t.Net
}

// isSale tells whether one of the first n commands is a sale in a currency, of that ID.
func isSale(l []api.Command, n int, id, currency string) bool {
	return slices.ContainsFunc(l[:n], func(c api.Command) bool {
		return c.Kind == "sale" && c.ID == id && c.Currency == currency
	})
}

// netOf is what Net should answer: of each command all those ahead of it are looked through.
func netOf(l []api.Command, currency string) (int64, api.Errno) {
	s := nought()
	for i, c := range l {
		switch {
		case c.Kind == "sale" && c.Currency == currency:
			s.add(c.Amount)
		case (c.Kind == "refund" || c.Kind == "chargeback") && isSale(l, i, c.About, currency):
			s.less(c.Amount)
		case c.Kind == "reverse":
			for j, x := range slices.Backward(l[:i]) {
				if x.Kind == "chargeback" && x.ID == c.About && isSale(l, j, x.About, currency) {
					s.add(x.Amount)
					break
				}
			}
		}
	}
	return s.told()
}

// movedOf is what Moved should answer.
func movedOf(l []gate.Record, currency string) (int64, api.Errno) {
	s := nought()
	for _, x := range l {
		if x.Moved && x.Currency == currency {
			s.add(x.Amount)
		}
	}
	return s.told()
}

// check asks of a list, twice, and of the same list with others behind its length: the answers are the same, and no list is changed.
func check[T, A any](t *testing.T, name string, ask func([]T, string) (A, api.Errno), l []T, currency string, want A, wantE api.Errno, behind ...T) {
	t.Helper()
	given := slices.Clone(l)
	spare := append(slices.Clone(l), behind...)
	stood := slices.Clone(spare)
	lists := [][]T{l, l, spare[:len(l)]}
	if len(l) == 0 {
		lists = append(lists, nil, []T{})
	}
	for _, x := range lists {
		got, e := ask(x, currency)
		if e != wantE || !reflect.DeepEqual(got, want) {
			t.Fatalf("%s(%.600q, %q): %v %d, not %v %d", name, fmt.Sprint(l), currency, got, e, want, wantE)
		}
	}
	if len(l) > 0 && !reflect.DeepEqual(l, given) || !reflect.DeepEqual(spare, stood) {
		t.Fatalf("%s changed its list to %.600q", name, fmt.Sprint(l))
	}
}

func checkOf(t *testing.T, l []book.Line, currency string, want Totals, e api.Errno) {
	t.Helper()
	behind := []book.Line{line("fee", "", currency, 5), line("clearing", "", currency, greatest), line("debt", "p", currency, least), line("fee", "", currency, greatest)}
	check(t, "Of", Of, l, currency, want, e, behind...)
}

func checkNet(t *testing.T, l []api.Command, currency string, want int64, e api.Errno) {
	t.Helper()
	behind := []api.Command{{Kind: "sale", ID: "a", Currency: currency, Amount: 5}, {Kind: "refund", About: "a", Amount: least}}
	check(t, "Net", Net, l, currency, want, e, behind...)
}

func checkMoved(t *testing.T, l []gate.Record, currency string, want int64, e api.Errno) {
	t.Helper()
	behind := []gate.Record{{Currency: currency, Amount: 5, Moved: true}, {Currency: currency, Amount: greatest, Moved: true}}
	check(t, "Moved", Moved, l, currency, want, e, behind...)
}

// line is a balance.
func line(kind, party, currency string, n int64) book.Line {
	return book.Line{Key: book.Key{Kind: kind, Party: party, Currency: currency}, Amount: n}
}

// eur are balances of one kind in euros, of the same account.
func eur(kind string, amounts ...int64) []book.Line {
	var l []book.Line
	for _, n := range amounts {
		l = append(l, line(kind, partyOf(kind), "EUR", n))
	}
	return l
}

// partyOf is ann, if an account of that kind has a party.
func partyOf(kind string) string {
	if slices.Contains([]string{"clearing", "fee", "tax"}, kind) {
		return ""
	}
	return "ann"
}

// only are totals of which all are 0 but one kind's.
func only(kind string, n int64) Totals {
	var t Totals
	*total(&t, kind) = n
	return t
}

// orders are all orders of a list.
func orders[T any](l []T) [][]T {
	if len(l) == 0 {
		return [][]T{nil}
	}
	var all [][]T
	for i := range l {
		rest := slices.Delete(slices.Clone(l), i, i+1)
		for _, o := range orders(rest) {
			all = append(all, append([]T{l[i]}, o...))
		}
	}
	return all
}
