package book

import (
	"fmt"
	"math"
	"math/big"
	"math/rand/v2"
	"slices"
	"strconv"
	"strings"
	"testing"

	"souk/api"
)

const (
	least    = math.MinInt64
	greatest = math.MaxInt64
)

// The kinds, by whether an account of theirs has a party; each in the order of texts.
var (
	withoutParty = []string{"clearing", "fee", "tax"}
	withParty    = []string{"available", "debt", "flight", "paid", "reserve"}
	kinds        = []string{"available", "clearing", "debt", "fee", "flight", "paid", "reserve", "tax"}
)

// noKinds are texts that are none's.
var noKinds = []string{"", " ", "Clearing", "FEE", "fees", "fe", " fee", "fee ", "fee\x00", "net", "availabl", "debt,", "clearingfee", "\xff"}

// names are some that a party or a currency may have, in the order of texts.
var names = []string{"\x00", " ", "1", "10", "9", "A", "EUR", "Z", "a", "a b", "aa", "ann", "b", "fee", strings.Repeat("n", 1000), "\u00e9", "\U0001F600", "\xff"}

func line(kind, party, currency string, n int64) Line {
	return Line{Key{kind, party, currency}, n}
}

// eur is a line in euros, of ann, if its kind has a party.
func eur(kind string, n int64) Line {
	return line(kind, partyOf(kind, "ann"), "EUR", n)
}

func partyOf(kind, party string) string {
	if slices.Contains(withParty, kind) {
		return party
	}
	return ""
}

// onItsSide is an amount of that size that a kind's balance may be.
func onItsSide(kind string, size int64) int64 {
	if kind == "clearing" || kind == "debt" {
		return -size
	}
	return size
}

// against is a kind whose balance may be what one of the other kind may not.
func against(kind string) string {
	if onItsSide(kind, 1) < 0 {
		return "tax"
	}
	return "clearing"
}

// beside is another kind whose balance is on the same side.
func beside(kind string) string {
	switch kind {
	case "clearing":
		return "debt"
	case "debt":
		return "clearing"
	case "paid":
		return "reserve"
	default:
		return "paid"
	}
}

// made is a book on which lines were booked.
func made(t *testing.T, l ...Line) *Book {
	t.Helper()
	b := New()
	checkPost(t, b, api.OK, l...)
	return b
}

// told is lines as they are told where a test fails: their names may be any bytes.
func told(l []Line) string {
	var s strings.Builder
	for _, x := range l {
		fmt.Fprintf(&s, "%.20q %d, ", x.Key, x.Amount)
	}
	return "[" + strings.TrimSuffix(s.String(), ", ") + "]"
}

// checkPost books lines; with an error none of them, and the list stays as it was.
func checkPost(t *testing.T, b *Book, want api.Errno, l ...Line) {
	t.Helper()
	stood, given := b.All(), slices.Clone(l)
	if e := b.Post(l...); e != want {
		t.Fatalf("Post(%s): %d, not %d", told(l), e, want)
	}
	if !slices.Equal(l, given) {
		t.Fatalf("Post changed its lines to %s", told(l))
	}
	if want != api.OK {
		checkAll(t, b, stood...)
	}
}

// checkAll tells whether these are all balances, by All and by Get.
func checkAll(t *testing.T, b *Book, want ...Line) {
	t.Helper()
	// Twice: a book doesn't hear what is asked of it.
	for range 2 {
		if l := b.All(); !slices.Equal(l, want) {
			t.Fatalf("All: %s, not %s", told(l), told(want))
		}
		for _, x := range want {
			checkGet(t, b, x.Key, x.Amount)
		}
	}
}

func checkGet(t *testing.T, b *Book, k Key, want int64) {
	t.Helper()
	if n := b.Get(k.Kind, k.Party, k.Currency); n != want {
		t.Fatalf("Get(%q): %d, not %d", k, n, want)
	}
}

// P7.1, Right.

func TestKinds(t *testing.T) {
	l := []string{Available, Clearing, Debt, Fee, Flight, Paid, Reserve, Tax}
	if !slices.Equal(l, kinds) {
		t.Error(l)
	}
}

func TestRight(t *testing.T) {
	for _, kind := range kinds {
		alone := slices.Contains(withoutParty, kind)
		for _, name := range names {
			for k, want := range map[Key]bool{
				{kind, "", name}:   alone,
				{kind, name, name}: !alone,
				{kind, "x", name}:  !alone,
				{kind, "", ""}:     false,
				{kind, name, ""}:   false,
			} {
				if k.Right() != want {
					t.Errorf("%q: not %t", k, want)
				}
			}
		}
	}
}

func TestRightOfNoKind(t *testing.T) {
	for _, kind := range noKinds {
		for _, k := range []Key{{kind, "", "EUR"}, {kind, "ann", "EUR"}, {kind, "", ""}, {kind, "ann", ""}} {
			if k.Right() {
				t.Errorf("%q", k)
			}
		}
	}
}

// A line is asked as its account is.
func TestRightOfALine(t *testing.T) {
	for _, n := range []int64{0, 1, -1, least, greatest} {
		if !line("fee", "", "EUR", n).Right() || line("fee", "ann", "EUR", n).Right() {
			t.Error(n)
		}
	}
}

// P7.1, Post.

func TestExample(t *testing.T) {
	b := made(t, eur("clearing", -5), eur("fee", 5))
	if n := b.Get(Fee, "", "EUR"); n != 5 {
		t.Error(n)
	}
}

func TestNewHasNothing(t *testing.T) {
	b := New()
	if b == nil {
		t.Fatal("nil")
	}
	checkAll(t, b)
	for _, kind := range kinds {
		checkGet(t, b, eur(kind, 0).Key, 0)
	}
}

func TestPostOfNothing(t *testing.T) {
	b := New()
	checkPost(t, b, api.OK)
	checkAll(t, b)
	checkPost(t, b, api.OK, eur("clearing", -5), eur("fee", 5))
	checkPost(t, b, api.OK)
	checkPost(t, b, api.OK, []Line{}...)
	checkAll(t, b, eur("clearing", -5), eur("fee", 5))
}

// A line of 0 is booked as others are: it changes nothing.
func TestPostOfNought(t *testing.T) {
	b := New()
	for _, kind := range kinds {
		checkPost(t, b, api.OK, eur(kind, 0))
	}
	checkAll(t, b)
	checkPost(t, b, api.OK, eur("clearing", -5), eur("fee", 0), eur("tax", 5), eur("debt", 0))
	checkAll(t, b, eur("clearing", -5), eur("tax", 5))
	checkPost(t, b, api.OK, eur("tax", 0), eur("clearing", 0))
	checkAll(t, b, eur("clearing", -5), eur("tax", 5))
}

// Each kind's balance is what was booked on it, on its side of 0, up to the greatest.
func TestPostOnEachKind(t *testing.T) {
	for _, kind := range kinds {
		other := against(kind)
		for _, size := range []int64{1, 2, 100, 1 << 50, greatest - 1, greatest} {
			b := New()
			checkPost(t, b, api.OK, eur(kind, onItsSide(kind, size)), eur(other, onItsSide(other, size)))
			checkGet(t, b, eur(kind, 0).Key, onItsSide(kind, size))
			checkGet(t, b, eur(other, 0).Key, onItsSide(other, size))
			checkPost(t, b, api.OK, eur(other, onItsSide(other, -1)), eur(kind, onItsSide(kind, -1)))
			checkGet(t, b, eur(kind, 0).Key, onItsSide(kind, size-1))
			checkPost(t, b, api.OK, eur(other, onItsSide(other, 1-size)), eur(kind, onItsSide(kind, 1-size)))
			checkAll(t, b)
		}
	}
}

// Accounts that differ in one part only are others.
func TestAccountsAreApart(t *testing.T) {
	b := New()
	var want []Line
	n := int64(0)
	for _, kind := range withParty {
		for _, party := range names {
			for _, currency := range names {
				n++
				x := line(kind, party, currency, onItsSide(kind, n))
				other := against(kind)
				checkPost(t, b, api.OK, line(other, "", currency, -x.Amount), x)
				want = append(want, x)
			}
		}
	}
	for _, x := range want {
		checkGet(t, b, x.Key, x.Amount)
	}
	all := slices.DeleteFunc(b.All(), func(x Line) bool { return x.Party == "" })
	if !slices.Equal(all, want) {
		t.Error(told(all))
	}
}

func TestPostOnOneAccountAgain(t *testing.T) {
	b := made(t, eur("fee", 1), eur("clearing", -6), eur("fee", 2), eur("fee", 3))
	checkAll(t, b, eur("clearing", -6), eur("fee", 6))
	checkPost(t, b, api.OK, eur("fee", -4), eur("tax", 1), eur("fee", 1), eur("tax", 2))
	checkAll(t, b, eur("clearing", -6), eur("fee", 3), eur("tax", 3))
}

// Meanwhile a balance may be what it may not be at last.
func TestMeanwhileOnTheOtherSide(t *testing.T) {
	for _, kind := range kinds {
		other := against(kind)
		for _, size := range []int64{1, 7, greatest} {
			b := New()
			checkPost(t, b, api.OK, eur(kind, onItsSide(kind, -size)), eur(kind, onItsSide(kind, size)))
			checkAll(t, b)
			checkPost(t, b, api.OK, eur(kind, onItsSide(kind, -size)), eur(other, onItsSide(other, -size)), eur(other, onItsSide(other, size)), eur(kind, onItsSide(kind, size)))
			checkAll(t, b)
		}
		b := New()
		checkPost(t, b, api.OK, eur(kind, onItsSide(kind, -3)), eur(other, onItsSide(other, 4)), eur(kind, onItsSide(kind, 7)))
		checkGet(t, b, eur(kind, 0).Key, onItsSide(kind, 4))
	}
}

// The least balance is an amount, and clearing and debt may be it.
func TestTheLeastBalance(t *testing.T) {
	for _, kind := range []string{"clearing", "debt"} {
		b := made(t, eur(kind, least), eur("fee", greatest), eur("tax", 1))
		checkGet(t, b, eur(kind, 0).Key, least)
		checkPost(t, b, api.ErrOver, eur(kind, -1), eur("tax", 1))
		checkPost(t, b, api.ErrOver, eur("tax", 1), eur(kind, -1))
		checkPost(t, b, api.OK, eur(kind, 1), eur("tax", -1))
		checkGet(t, b, eur(kind, 0).Key, least+1)
	}
}

// P7.1: ErrArg of accounts.

// Wherever it stands, whatever its amount is.
func TestPostOnNoAccount(t *testing.T) {
	var wrong []Key
	for _, kind := range noKinds {
		wrong = append(wrong, Key{kind, "", "EUR"}, Key{kind, "ann", "EUR"})
	}
	for _, kind := range withoutParty {
		wrong = append(wrong, Key{kind, "ann", "EUR"}, Key{kind, "", ""}, Key{kind, "ann", ""}, Key{kind, " ", "EUR"})
	}
	for _, kind := range withParty {
		wrong = append(wrong, Key{kind, "", "EUR"}, Key{kind, "ann", ""}, Key{kind, "", ""})
	}
	stood := []Line{eur("clearing", -100), eur("fee", 100)}
	b := made(t, stood...)
	for _, k := range wrong {
		checkPost(t, b, api.ErrArg, Line{k, 0})
		checkPost(t, b, api.ErrArg, Line{k, 1}, Line{k, -1})
		for at := range 3 {
			l := []Line{eur("fee", 5), eur("clearing", -5)}
			checkPost(t, b, api.ErrArg, slices.Insert(l, at, Line{k, 0})...)
			l = []Line{eur("fee", 5), eur("clearing", -4)}
			checkPost(t, b, api.ErrArg, slices.Insert(l, at, Line{k, -1})...)
		}
		checkGet(t, b, k, 0)
	}
	checkAll(t, b, stood...)
}

// P7.1: ErrArg of currencies.

func TestPostThatIsNotEven(t *testing.T) {
	b := made(t, eur("clearing", -100), eur("fee", 100))
	for _, l := range [][]Line{
		{eur("fee", 1)},
		{eur("clearing", -1)},
		{eur("fee", -1)},
		{eur("clearing", 1)},
		{eur("fee", greatest)},
		{eur("clearing", least)},
		{eur("fee", 5), eur("clearing", -4)},
		{eur("fee", 5), eur("clearing", -6)},
		{eur("fee", 5), eur("clearing", 5)},
		{eur("fee", 5), eur("fee", -5), eur("clearing", -1)},
		{eur("clearing", least), eur("fee", greatest)},
		// What wraps round to 0 is not 0.
		{eur("clearing", least), eur("debt", least)},
		{eur("fee", 1<<62), eur("tax", 1<<62), eur("paid", 1<<62), eur("flight", 1<<62)},
	} {
		checkPost(t, b, api.ErrArg, l...)
	}
}

// Each currency by itself: what lacks in one isn't made good by another.
func TestEachCurrencyIsEven(t *testing.T) {
	b := New()
	checkPost(t, b, api.ErrArg, line("clearing", "", "EUR", -5), line("fee", "", "USD", 5))
	checkPost(t, b, api.ErrArg, line("clearing", "", "EUR", -5), line("fee", "", "eur", 5))
	checkPost(t, b, api.ErrArg, line("clearing", "", "EUR", -5), line("fee", "", "EUR ", 5))
	checkPost(t, b, api.ErrArg, line("clearing", "", "EUR", -5), line("fee", "", "EUR", 5), line("fee", "", "USD", 1))
	checkPost(t, b, api.ErrArg, line("clearing", "", "USD", -5), line("clearing", "", "EUR", -7), line("fee", "", "EUR", 5), line("fee", "", "USD", 7))
	checkPost(t, b, api.OK, line("clearing", "", "USD", -5), line("clearing", "", "EUR", -7), line("fee", "", "EUR", 7), line("fee", "", "USD", 5))
	checkAll(t, b, line("clearing", "", "EUR", -7), line("clearing", "", "USD", -5), line("fee", "", "EUR", 7), line("fee", "", "USD", 5))
}

// Amounts that are none meanwhile are ErrArg, though they are 0 at last, and no balance runs over.
func TestAmountsThatRunOver(t *testing.T) {
	b := New()
	up := []Line{eur("fee", greatest), eur("tax", 1), eur("clearing", -1), eur("debt", -greatest)}
	checkPost(t, b, api.ErrArg, up...)
	down := []Line{eur("clearing", least), eur("debt", -1), eur("tax", 1), eur("fee", greatest), eur("fee", 1), eur("fee", -1), eur("paid", 1)}
	checkPost(t, b, api.ErrArg, down...)
	// In another order they are.
	checkPost(t, b, api.OK, up[0], up[3], up[1], up[2])
	checkAll(t, b, eur("clearing", -1), eur("debt", -greatest), eur("fee", greatest), eur("tax", 1))
}

// Amounts of one currency don't run over by those of another.
func TestAmountsOfCurrenciesAreApart(t *testing.T) {
	b := New()
	checkPost(t, b, api.OK, line("fee", "", "EUR", greatest), line("fee", "", "USD", greatest), line("clearing", "", "EUR", -greatest), line("clearing", "", "USD", -greatest))
	checkAll(t, b, line("clearing", "", "EUR", -greatest), line("clearing", "", "USD", -greatest), line("fee", "", "EUR", greatest), line("fee", "", "USD", greatest))
}

// P7.1: ErrOver.

func TestBalancesThatRunOver(t *testing.T) {
	for _, kind := range kinds {
		other := against(kind)
		b := made(t, eur(kind, onItsSide(kind, greatest-10)), eur(other, onItsSide(other, greatest-10)))
		// By as much as there is room, then by more.
		checkPost(t, b, api.OK, eur(kind, onItsSide(kind, 10)), eur(other, onItsSide(other, 10)))
		for _, size := range []int64{2, 3, 1 << 40, greatest} {
			l := []Line{eur(kind, onItsSide(kind, size)), eur(other, onItsSide(other, size))}
			checkPost(t, b, api.ErrOver, l...)
			checkPost(t, b, api.ErrOver, l[1], l[0])
		}
	}
}

// Meanwhile is enough; in another order it may not be.
func TestBalancesThatRunOverMeanwhile(t *testing.T) {
	b := made(t, eur("clearing", -greatest), eur("fee", greatest))
	checkPost(t, b, api.ErrOver, eur("fee", 1), eur("fee", -1))
	checkPost(t, b, api.OK, eur("fee", -1), eur("fee", 1))
	checkPost(t, b, api.ErrOver, eur("clearing", -2), eur("clearing", 2))
	checkPost(t, b, api.OK, eur("clearing", 2), eur("clearing", -2))
	checkPost(t, b, api.OK, eur("clearing", -1), eur("clearing", 1))
	checkPost(t, b, api.ErrOver, eur("tax", 1), eur("fee", -1), eur("tax", -1), eur("fee", 2), eur("fee", -1))
	checkAll(t, b, eur("clearing", -greatest), eur("fee", greatest))
	// By the lines alone, on a book without anything.
	checkPost(t, New(), api.ErrOver, eur("clearing", least), eur("fee", 1<<62), eur("fee", 1<<62))
	checkPost(t, New(), api.ErrOver, eur("fee", 1<<62), eur("clearing", -1<<62), eur("fee", 1<<62), eur("clearing", -1<<62))
	checkPost(t, New(), api.OK, eur("fee", 1<<62), eur("clearing", -1<<62), eur("tax", 1<<62), eur("clearing", -1<<62))
}

// P7.1: ErrMore.

// Each kind's balance may be 0 again, and not a bit beyond it.
func TestBalancesOnTheOtherSide(t *testing.T) {
	for _, kind := range kinds {
		other, beside := against(kind), beside(kind)
		for _, size := range []int64{0, 1, 2, 100, 1 << 50, greatest - 1} {
			b := made(t, eur(kind, onItsSide(kind, size)), eur(other, onItsSide(other, size)))
			// The kind beside it may be that much: only this one may not.
			l := []Line{eur(kind, onItsSide(kind, -size-1)), eur(beside, onItsSide(beside, size+1))}
			checkPost(t, b, api.ErrMore, l...)
			checkPost(t, b, api.ErrMore, l[1], l[0])
			checkPost(t, b, api.OK, eur(beside, onItsSide(beside, size)), eur(kind, onItsSide(kind, -size)))
			checkGet(t, b, eur(kind, 0).Key, 0)
			checkGet(t, b, eur(beside, 0).Key, onItsSide(beside, size))
			checkPost(t, b, api.ErrMore, eur(kind, onItsSide(kind, -1)), eur(beside, onItsSide(beside, 1)))
		}
	}
}

// What one account lacks isn't made good by another: of its kind, its party or its currency.
func TestEachAccountByItself(t *testing.T) {
	b := made(t,
		line("clearing", "", "EUR", -30), line("available", "ann", "EUR", 10), line("available", "bob", "EUR", 10), line("reserve", "ann", "EUR", 10),
		line("clearing", "", "USD", -10), line("available", "ann", "USD", 10))
	checkPost(t, b, api.ErrMore, line("available", "ann", "EUR", -11), line("available", "bob", "EUR", 11))
	checkPost(t, b, api.ErrMore, line("available", "ann", "EUR", -11), line("reserve", "ann", "EUR", 11))
	checkPost(t, b, api.ErrMore, line("available", "bob", "EUR", 11), line("available", "ann", "EUR", -11))
	checkPost(t, b, api.ErrMore, line("available", "carl", "EUR", -1), line("paid", "carl", "EUR", 1))
	checkPost(t, b, api.ErrMore, line("available", "bob", "USD", -1), line("paid", "bob", "USD", 1))
	checkPost(t, b, api.OK, line("available", "ann", "EUR", -10), line("available", "bob", "EUR", 10))
}

// P7.1: the order of the errors, wherever they stand.
func TestTheFirstError(t *testing.T) {
	b := made(t, line("clearing", "", "EUR", -greatest), line("fee", "", "EUR", greatest))
	noAccount := []Line{line("fee", "ann", "GBP", 0)}
	notEven := []Line{line("fee", "", "CHF", 1)}
	noAmount := []Line{line("fee", "", "SEK", greatest), line("tax", "", "SEK", 1), line("clearing", "", "SEK", -1), line("debt", "ann", "SEK", -greatest)}
	over := []Line{line("fee", "", "EUR", 1), line("fee", "", "EUR", -1)}
	more := []Line{line("available", "ann", "USD", -1), line("paid", "ann", "USD", 1)}
	fine := []Line{line("clearing", "", "USD", -1), line("reserve", "ann", "USD", 1)}
	for i, c := range []struct {
		l    [][]Line
		want api.Errno
	}{
		{[][]Line{fine}, api.OK},
		{[][]Line{noAccount, fine}, api.ErrArg},
		{[][]Line{notEven, fine}, api.ErrArg},
		{[][]Line{noAmount, fine}, api.ErrArg},
		{[][]Line{over, fine}, api.ErrOver},
		{[][]Line{more, fine}, api.ErrMore},
		{[][]Line{over, noAccount}, api.ErrArg},
		{[][]Line{over, notEven}, api.ErrArg},
		{[][]Line{over, noAmount}, api.ErrArg},
		{[][]Line{more, noAccount}, api.ErrArg},
		{[][]Line{more, notEven}, api.ErrArg},
		{[][]Line{more, noAmount}, api.ErrArg},
		{[][]Line{more, over}, api.ErrOver},
		{[][]Line{more, fine, over, fine}, api.ErrOver},
		{[][]Line{more, over, notEven}, api.ErrArg},
		{[][]Line{more, over, noAmount}, api.ErrArg},
		{[][]Line{more, over, noAccount}, api.ErrArg},
	} {
		for _, l := range [][][]Line{c.l, reversed(c.l)} {
			b := b.Clone()
			if e := b.Post(slices.Concat(l...)...); e != c.want {
				t.Errorf("%d: %d, not %d", i, e, c.want)
			}
		}
	}
	// In one currency and on one account: it runs over, and would be what it may not be.
	checkPost(t, b, api.ErrOver, eur("fee", 1), eur("fee", -greatest), eur("fee", -2), eur("clearing", greatest), eur("paid", 1))
	checkPost(t, b, api.ErrMore, eur("fee", -greatest), eur("fee", -1), eur("clearing", greatest), eur("paid", 1))
	checkPost(t, b, api.ErrArg, eur("fee", -greatest), eur("fee", -1), eur("clearing", greatest), eur("paid", 2))
}

func reversed(l [][]Line) [][]Line {
	l = slices.Clone(l)
	slices.Reverse(l)
	return l
}

// With an error nothing is booked, and what comes behind is booked as if it hadn't been.
func TestBehindAnError(t *testing.T) {
	b := New()
	for n := range int64(20) {
		checkPost(t, b, api.OK, eur("clearing", -1), eur("available", 1))
		checkPost(t, b, api.ErrArg, eur("clearing", -1), eur("available", 1), eur("what", 0))
		checkPost(t, b, api.ErrArg, eur("clearing", -1), eur("available", 1), eur("fee", 1))
		checkPost(t, b, api.ErrOver, eur("clearing", -1), eur("available", 1), eur("fee", least), eur("tax", greatest), eur("fee", -1), eur("paid", 2))
		checkPost(t, b, api.ErrMore, eur("clearing", -1), eur("available", 1), eur("fee", -1), eur("tax", 1))
		checkAll(t, b, eur("available", n+1), eur("clearing", -n-1))
	}
}

// P7.1, Get.

func TestGetOfNothing(t *testing.T) {
	b := made(t, line("clearing", "", "EUR", -5), line("available", "ann", "EUR", 5))
	for _, k := range []Key{
		{}, {"", "", "EUR"}, {"what", "", "EUR"}, {"what", "ann", "EUR"},
		{"clearing", "", ""}, {"clearing", "ann", "EUR"}, {"clearing", "", "USD"}, {"Clearing", "", "EUR"},
		{"available", "", "EUR"}, {"available", "ann", ""}, {"available", "ann", "eur"}, {"available", "Ann", "EUR"}, {"available", "annEUR", ""},
		{"available", "an", "nEUR"}, {"availableann", "", "EUR"}, {"reserve", "ann", "EUR"}, {"fee", "", "EUR"},
	} {
		checkGet(t, b, k, 0)
	}
	// It has not made an account of them.
	checkAll(t, b, line("available", "ann", "EUR", 5), line("clearing", "", "EUR", -5))
}

// P7.1, All.

// By kinds, then parties, then currencies, each as texts, in whatever order they were booked.
func TestAllInOrder(t *testing.T) {
	// In each currency: of four kinds with parties 1 of each name, of debt -1 of each name, of fee and tax 1.
	clearing := -int64(3*len(names) + 2)
	var want []Line
	for _, kind := range kinds {
		parties, n := names, onItsSide(kind, 1)
		if slices.Contains(withoutParty, kind) {
			parties = []string{""}
		}
		if kind == "clearing" {
			n = clearing
		}
		for _, party := range parties {
			for _, currency := range names {
				want = append(want, line(kind, party, currency, n))
			}
		}
	}
	r := rand.New(rand.NewPCG(1, 2))
	for range 20 {
		l := slices.Clone(want)
		r.Shuffle(len(l), func(i, j int) { l[i], l[j] = l[j], l[i] })
		b := New()
		checkPost(t, b, api.OK, l...)
		checkAll(t, b, want...)
	}
}

func TestAllOfSome(t *testing.T) {
	b := made(t,
		line("paid", "b", "A", 1), line("paid", "a", "B", 2), line("paid", "ab", "A", 3), line("paid", "a", "A", 4), line("paid", "B", "Z", 5),
		line("fee", "", "Z", 6), line("available", "z", "A", 7), line("tax", "", "A", 8), line("debt", "b", "A", -9),
		line("clearing", "", "Z", -11), line("clearing", "", "A", -14), line("clearing", "", "B", -2))
	checkAll(t, b,
		line("available", "z", "A", 7), line("clearing", "", "A", -14), line("clearing", "", "B", -2), line("clearing", "", "Z", -11), line("debt", "b", "A", -9), line("fee", "", "Z", 6),
		line("paid", "B", "Z", 5), line("paid", "a", "A", 4), line("paid", "a", "B", 2), line("paid", "ab", "A", 3), line("paid", "b", "A", 1), line("tax", "", "A", 8))
}

// A balance that is 0 again is not told.
func TestAllWithoutNought(t *testing.T) {
	b := made(t, eur("clearing", -10), eur("available", 10))
	checkPost(t, b, api.OK, eur("available", -10), eur("flight", 10))
	checkAll(t, b, eur("clearing", -10), eur("flight", 10))
	checkPost(t, b, api.OK, eur("flight", -10), eur("available", 4), eur("paid", 6))
	checkAll(t, b, eur("available", 4), eur("clearing", -10), eur("paid", 6))
	checkPost(t, b, api.OK, eur("clearing", 10), eur("paid", -6), eur("available", -4))
	checkAll(t, b)
}

// P7.1, Clone.

func TestClone(t *testing.T) {
	stood := []Line{eur("available", 90), eur("clearing", -100), eur("fee", 10)}
	b := made(t, stood...)
	c := b.Clone()
	checkAll(t, c, stood...)
	// What the one is told the other doesn't hear.
	checkPost(t, b, api.OK, eur("available", -90), eur("flight", 90))
	checkAll(t, c, stood...)
	checkPost(t, c, api.OK, eur("fee", -10), eur("tax", 10))
	checkAll(t, b, eur("clearing", -100), eur("fee", 10), eur("flight", 90))
	checkAll(t, c, eur("available", 90), eur("clearing", -100), eur("tax", 10))
	d := c.Clone()
	checkPost(t, c, api.ErrMore, eur("fee", -1), eur("tax", 1))
	checkPost(t, c, api.OK, eur("clearing", 100), eur("available", -90), eur("tax", -10))
	checkAll(t, c)
	checkAll(t, d, eur("available", 90), eur("clearing", -100), eur("tax", 10))
}

func TestCloneOfAnEmptyOne(t *testing.T) {
	for _, b := range []*Book{New(), new(Book)} {
		c := b.Clone()
		if c == nil || c == b {
			t.Fatal(c)
		}
		checkPost(t, c, api.OK, eur("clearing", -5), eur("fee", 5))
		checkAll(t, b)
		checkPost(t, b, api.OK, eur("clearing", -7), eur("tax", 7))
		checkAll(t, c, eur("clearing", -5), eur("fee", 5))
		checkAll(t, b, eur("clearing", -7), eur("tax", 7))
	}
}

func TestBooksAreApart(t *testing.T) {
	b, c := New(), New()
	checkPost(t, b, api.OK, eur("clearing", -5), eur("fee", 5))
	checkAll(t, c)
}

// P7.1: of a nil book, P1.

func TestNilBook(t *testing.T) {
	var b *Book
	for _, l := range [][]Line{nil, {}, {eur("clearing", -5), eur("fee", 5)}, {eur("fee", 5)}, {eur("what", 0)}, {eur("available", -1), eur("fee", 1)}, {eur("fee", greatest), eur("fee", 1)}} {
		checkPost(t, b, api.ErrArg, l...)
	}
	for _, kind := range append(slices.Clone(kinds), noKinds...) {
		checkGet(t, b, Key{kind, "", "EUR"}, 0)
		checkGet(t, b, Key{kind, "ann", "EUR"}, 0)
	}
	if l := b.All(); len(l) != 0 {
		t.Error(l)
	}
	if c := b.Clone(); c != nil {
		t.Error(c)
	}
}

// A book that New didn't make has nothing.
func TestZeroBook(t *testing.T) {
	var b Book
	checkAll(t, &b)
	checkGet(t, &b, Key{"fee", "", "EUR"}, 0)
	checkPost(t, &b, api.ErrMore, eur("clearing", 5), eur("fee", -5))
	checkPost(t, &b, api.OK, eur("clearing", -5), eur("fee", 5))
	checkAll(t, &b, eur("clearing", -5), eur("fee", 5))
}

// P2: lists that are handed in, or answered, are not the book's.

func TestListsAreApart(t *testing.T) {
	l := []Line{eur("clearing", -5), eur("fee", 5), eur("what", 7)}
	// What lies behind the list's length is none of its lines.
	b := New()
	if e := b.Post(l[:2]...); e != api.OK || l[2] != eur("what", 7) {
		t.Fatal(e, told(l))
	}
	l[0], l[1] = eur("tax", 1), eur("paid", 2)
	checkAll(t, b, eur("clearing", -5), eur("fee", 5))
	all, again := b.All(), b.All()
	all[0], all[1] = eur("tax", 1), eur("paid", 2)
	if again[0] != eur("clearing", -5) || again[1] != eur("fee", 5) {
		t.Error(told(again))
	}
	checkAll(t, b, eur("clearing", -5), eur("fee", 5))
	// What is answered may be handed in: all balances, once more.
	checkPost(t, b, api.OK, b.All()...)
	checkAll(t, b, eur("clearing", -10), eur("fee", 10))
}

// model is balances of any size, and what the chapter's words say of them.
type model map[Key]*big.Int

func (m model) get(k Key) *big.Int {
	if n := m[k]; n != nil {
		return n
	}
	return new(big.Int)
}

// lines is all balances but 0, in order.
func (m model) lines() []Line {
	var l []Line
	for k, n := range m {
		if n.Sign() == 0 {
			continue
		}
		at := 0
		for at < len(l) && less(l[at].Key, k) {
			at++
		}
		l = slices.Insert(l, at, Line{k, n.Int64()})
	}
	return l
}

func less(a, b Key) bool {
	if a.Kind != b.Kind {
		return a.Kind < b.Kind
	}
	if a.Party != b.Party {
		return a.Party < b.Party
	}
	return a.Currency < b.Currency
}

func (m model) post(l []Line) (model, api.Errno) {
	sums := map[string]*big.Int{}
	var e api.Errno
	for _, x := range l {
		alone := slices.Contains(withoutParty, x.Kind)
		if !slices.Contains(kinds, x.Kind) || alone != (x.Party == "") || x.Currency == "" {
			return m, api.ErrArg
		}
		if sums[x.Currency] == nil {
			sums[x.Currency] = new(big.Int)
		}
		if !sums[x.Currency].Add(sums[x.Currency], big.NewInt(x.Amount)).IsInt64() {
			e = api.ErrArg
		}
	}
	for _, sum := range sums {
		if sum.Sign() != 0 {
			e = api.ErrArg
		}
	}
	if e != api.OK {
		return m, e
	}
	next := model{}
	for k, n := range m {
		next[k] = n
	}
	for _, x := range l {
		next[x.Key] = new(big.Int).Add(next.get(x.Key), big.NewInt(x.Amount))
		if !next[x.Key].IsInt64() {
			return m, api.ErrOver
		}
	}
	for k, n := range next {
		if n.Sign() != 0 && n.Sign() != int(onItsSide(k.Kind, 1)) {
			return m, api.ErrMore
		}
	}
	return next, api.OK
}

// checkEven holds P7.2: the balances of each currency are 0 together.
func checkEven(t *testing.T, b *Book) {
	t.Helper()
	sums := map[string]*big.Int{}
	for _, x := range b.All() {
		if sums[x.Currency] == nil {
			sums[x.Currency] = new(big.Int)
		}
		sums[x.Currency].Add(sums[x.Currency], big.NewInt(x.Amount))
	}
	for currency, sum := range sums {
		if sum.Sign() != 0 {
			t.Fatalf("%q: %v", currency, sum)
		}
	}
}

func one[T any](r *rand.Rand, l []T) T {
	return l[r.IntN(len(l))]
}

func anyAmount(r *rand.Rand, great bool) int64 {
	if great {
		return one(r, []int64{least, least + 1, least / 2, -1, 0, 1, greatest / 2, greatest - 1, greatest, int64(r.Uint64())})
	}
	return r.Int64N(41) - 20
}

// anyLine is mostly of an account that may be, with an amount on its side.
func anyLine(r *rand.Rand, great bool) Line {
	kind := one(r, kinds)
	x := line(kind, partyOf(kind, one(r, []string{"ann", "bob"})), one(r, []string{"EUR", "USD"}), anyAmount(r, great))
	if r.IntN(3) > 0 && x.Amount != least {
		x.Amount = onItsSide(kind, max(x.Amount, -x.Amount))
	}
	if r.IntN(40) > 0 {
		return x
	}
	switch r.IntN(3) {
	case 0:
		x.Kind = one(r, noKinds)
	case 1:
		x.Party = one(r, []string{"", "carl"})
	default:
		x.Currency = one(r, []string{"", "GBP"})
	}
	return x
}

// anyLines is mostly even.
func anyLines(r *rand.Rand) []Line {
	var l []Line
	great := r.IntN(6) == 0
	for range r.IntN(5) {
		l = append(l, anyLine(r, great))
	}
	if r.IntN(12) == 0 {
		return l
	}
	sums := map[string]int64{}
	for _, x := range l {
		sums[x.Currency] += x.Amount
	}
	for _, currency := range []string{"EUR", "USD", "GBP"} {
		if sum := sums[currency]; sum > 0 {
			l = append(l, line(one(r, []string{"clearing", "fee", "tax"}), "", currency, -sum))
		} else if sum < 0 {
			l = append(l, line(one(r, []string{"available", "paid", "debt"}), one(r, []string{"ann", "bob"}), currency, -sum))
		}
	}
	if r.IntN(4) == 0 {
		r.Shuffle(len(l), func(i, j int) { l[i], l[j] = l[j], l[i] })
	}
	return l
}

// P7.1, P7.2, P1 and P2: any lines, against the words; a clone goes on as its book does.
func TestAnyCalls(t *testing.T) {
	r := rand.New(rand.NewPCG(3, 4))
	counts := map[api.Errno]int{}
	for range 300 {
		b, m := New(), model{}
		for range 60 {
			l := anyLines(r)
			next, want := m.post(l)
			counts[want]++
			was := b.Clone()
			checkPost(t, b, want, l...)
			checkAll(t, was, m.lines()...)
			checkPost(t, was, want, l...)
			m = next
			checkAll(t, b, m.lines()...)
			checkAll(t, was, m.lines()...)
			checkEven(t, b)
			if r.IntN(5) == 0 {
				b = was
			}
		}
	}
	for _, e := range []api.Errno{api.OK, api.ErrArg, api.ErrOver, api.ErrMore} {
		if counts[e] < 300 {
			t.Error("too few of ", e, counts)
		}
	}
}

// Many accounts: what is booked on a few doesn't go through all.
func TestMany(t *testing.T) {
	const many = 100000
	b := New()
	for i := range many {
		party := strconv.Itoa(i)
		checkMany(t, b, line("clearing", "", "EUR", -int64(i)-1), line("available", party, "EUR", int64(i)+1))
	}
	l := b.All()
	if len(l) != many+1 || l[many] != line("clearing", "", "EUR", -many*(many+1)/2) || l[1] != line("available", "1", "EUR", 2) || l[2] != line("available", "10", "EUR", 11) {
		t.Fatal(len(l))
	}
	checkEven(t, b)
	var back []Line
	for _, x := range l {
		back = append(back, Line{x.Key, -x.Amount})
	}
	checkMany(t, b, back...)
	checkAll(t, b)
}

func checkMany(t *testing.T, b *Book, l ...Line) {
	t.Helper()
	if e := b.Post(l...); e != api.OK {
		t.Fatal(e)
	}
}
