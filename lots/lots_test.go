package lots

import (
	"fmt"
	"math"
	"math/big"
	"math/rand/v2"
	"slices"
	"testing"

	"souk/api"
)

const greatest, least = math.MaxInt64, math.MinInt64

// lot is ann's, in EUR, if nothing else is asked for.
func lot(amount, due int64) Lot {
	return Lot{Party: "ann", Currency: "EUR", Amount: amount, Due: due}
}

// made is lots of l.
func made(t *testing.T, l ...Lot) *Lots {
	t.Helper()
	x := &Lots{}
	for _, o := range l {
		if e := x.Add(o); e != api.OK {
			t.Fatalf("Add(%+v) = %d", o, e)
		}
	}
	return x
}

// wantAll holds which lots there are.
func wantAll(t *testing.T, x *Lots, want ...Lot) {
	t.Helper()
	if l := x.All(); !slices.Equal(l, want) {
		t.Errorf("All = %+v, want %+v", l, want)
	}
}

// wantDue holds which lots are taken away.
func wantDue(t *testing.T, x *Lots, now int64, want ...Lot) {
	t.Helper()
	if l := x.Due(now); !slices.Equal(l, want) {
		t.Errorf("Due(%d) = %+v, want %+v", now, l, want)
	}
}

// wantHeld holds how much is held back.
func wantHeld(t *testing.T, x *Lots, party, currency string, want int64, wantE api.Errno) {
	t.Helper()
	if n, e := x.Held(party, currency); n != want || e != wantE {
		t.Errorf("Held(%q, %q) = %d, %d, want %d, %d", party, currency, n, e, want, wantE)
	}
}

// wantNext holds the least Due.
func wantNext(t *testing.T, x *Lots, want int64) {
	t.Helper()
	if n := x.Next(); n != want {
		t.Errorf("Next = %d, want %d", n, want)
	}
}

// wantNone holds that there is no lot.
func wantNone(t *testing.T, x *Lots) {
	t.Helper()
	wantAll(t, x)
	wantNext(t, x, -1)
	for _, party := range []string{"", "ann", "bob"} {
		wantHeld(t, x, party, "EUR", 0, api.OK)
		wantHeld(t, x, party, "", 0, api.OK)
	}
	for _, now := range []int64{least, -1, 0, 1, greatest} {
		wantDue(t, x, now)
	}
}

// P14.1, the zero Lots.

func TestNone(t *testing.T) {
	wantNone(t, &Lots{})
	wantNone(t, new(Lots).Clone())
	var x Lots
	wantNone(t, &x)
	if e := x.Add(lot(1, 2)); e != api.OK {
		t.Errorf("Add = %d", e)
	}
	wantAll(t, &x, lot(1, 2))
}

func TestNoneByEachCallAlone(t *testing.T) {
	wantAll(t, &Lots{})
	wantNext(t, &Lots{}, -1)
	wantHeld(t, &Lots{}, "ann", "EUR", 0, api.OK)
	wantHeld(t, &Lots{}, "", "", 0, api.OK)
	wantDue(t, &Lots{}, greatest)
	y := new(Lots).Clone()
	if y == nil {
		t.Fatal("Clone of none is nil")
	}
	wantAll(t, y)
}

func TestNil(t *testing.T) {
	var x *Lots
	for _, l := range []Lot{{}, lot(0, 0), lot(1, 2), lot(-1, -1)} {
		if e := x.Add(l); e != api.ErrArg {
			t.Errorf("Add(%+v) = %d", l, e)
		}
	}
	wantNone(t, x)
	if y := x.Clone(); y != nil {
		t.Errorf("Clone = %+v", y)
	}
}

// P14.1, Add.

func TestAdd(t *testing.T) {
	l := []Lot{lot(5, 9), lot(7, 4), {"bob", "USD", 1, 0}, lot(greatest, greatest), {" ", "\x00", 1, 1}}
	x := &Lots{}
	for i, o := range l {
		if e := x.Add(o); e != api.OK {
			t.Errorf("Add(%+v) = %d", o, e)
		}
		wantAll(t, x, l[:i+1]...)
	}
}

func TestAddTwice(t *testing.T) {
	x := made(t, lot(5, 9), lot(5, 9))
	wantAll(t, x, lot(5, 9), lot(5, 9))
	wantHeld(t, x, "ann", "EUR", 10, api.OK)
	wantNext(t, x, 9)
	wantDue(t, x, 9, lot(5, 9), lot(5, 9))
	wantAll(t, x)
}

// edges are numbers of a lot, the wrong ones among them.
var edges = []int64{least, least + 1, -2, -1, 0, 1, 2, 3, greatest - 1, greatest}

// Every lot of these names and edges, so each thing that is wrong beside each other one.
func TestAddEdges(t *testing.T) {
	for _, party := range []string{"", "ann", "\x00"} {
		for _, currency := range []string{"", "EUR", " "} {
			for _, amount := range edges {
				for _, due := range edges {
					addEdge(t, Lot{party, currency, amount, due})
				}
			}
		}
	}
}

// addEdge holds what Add says of l, and whether l is there then.
func addEdge(t *testing.T, l Lot) {
	t.Helper()
	ahead := lot(3, 7)
	for _, x := range []*Lots{{}, made(t, ahead)} {
		want, wantE := x.All(), api.OK
		if l.Party == "" || l.Currency == "" || l.Amount < 0 || l.Due < 0 {
			wantE = api.ErrArg
		} else if l.Amount != 0 {
			want = append(want, l)
		}
		if e := x.Add(l); e != wantE {
			t.Errorf("Add(%+v) = %d, want %d", l, e, wantE)
		}
		wantAll(t, x, want...)
		wantDue(t, x, greatest, want...)
	}
}

func TestAddWrong(t *testing.T) {
	for _, l := range []Lot{
		{"", "EUR", 1, 1},
		{"ann", "", 1, 1},
		{"", "", 1, 1},
		{"ann", "EUR", -1, 1},
		{"ann", "EUR", least, 1},
		{"ann", "EUR", 1, -1},
		{"ann", "EUR", 1, least},
		{"ann", "EUR", -1, -1},
		{"", "EUR", 0, 1},
		{"ann", "", 0, 1},
		{"ann", "EUR", 0, -1},
		{"ann", "EUR", 0, least},
		{},
	} {
		x := made(t, lot(5, 9), lot(7, 4))
		if e := x.Add(l); e != api.ErrArg {
			t.Errorf("Add(%+v) = %d, want %d", l, e, api.ErrArg)
		}
		wantAll(t, x, lot(5, 9), lot(7, 4))
		wantNext(t, x, 4)
		wantHeld(t, x, "ann", "EUR", 12, api.OK)
	}
}

// A lot of nothing is as none: it is not even the next one that is due.
func TestAddNothing(t *testing.T) {
	x := made(t, lot(0, 1), lot(5, 9), lot(0, 0), lot(0, greatest))
	wantNext(t, x, 9)
	wantDue(t, x, 8)
	wantAll(t, x, lot(5, 9))
	wantNone(t, made(t, lot(0, 0), lot(0, 1), lot(0, greatest)))
}

// P14.1, Due.

func TestExample(t *testing.T) {
	x := made(t, lot(1, 5), lot(1, 3))
	wantDue(t, x, 4, lot(1, 3))
	wantAll(t, x, lot(1, 5))
}

func TestDue(t *testing.T) {
	a, b, c, d := lot(1, 5), Lot{"bob", "USD", 2, 3}, lot(3, 0), Lot{"cy", "EUR", 4, 5}
	for _, o := range []struct {
		now        int64
		want, left []Lot
	}{
		{least, nil, []Lot{a, b, c, d}},
		{-1, nil, []Lot{a, b, c, d}},
		{0, []Lot{c}, []Lot{a, b, d}},
		{1, []Lot{c}, []Lot{a, b, d}},
		{2, []Lot{c}, []Lot{a, b, d}},
		{3, []Lot{b, c}, []Lot{a, d}},
		{4, []Lot{b, c}, []Lot{a, d}},
		{5, []Lot{a, b, c, d}, nil},
		{6, []Lot{a, b, c, d}, nil},
		{greatest, []Lot{a, b, c, d}, nil},
	} {
		x := made(t, a, b, c, d)
		wantDue(t, x, o.now, o.want...)
		wantAll(t, x, o.left...)
		wantDue(t, x, o.now)
		wantDue(t, x, max(o.now, least+1)-1)
		wantAll(t, x, o.left...)
		wantDue(t, x, greatest, o.left...)
		wantNone(t, x)
	}
}

// One at just its Due, one below it and one above.
func TestDueOfOne(t *testing.T) {
	for _, due := range []int64{0, 1, 2, 1 << 31, 1 << 32, greatest - 1, greatest} {
		x := made(t, lot(1, due))
		wantDue(t, x, least)
		wantDue(t, x, -1)
		wantDue(t, x, due-1)
		wantAll(t, x, lot(1, due))
		wantDue(t, x, due, lot(1, due))
		wantNone(t, x)
		if due < greatest {
			x = made(t, lot(1, due))
			wantDue(t, x, due+1, lot(1, due))
			wantNone(t, x)
		}
	}
}

// Several calls, one behind the other, and lots that are added between.
func TestDueOften(t *testing.T) {
	x := made(t, lot(1, 6), lot(2, 2), lot(3, 4), lot(4, 2))
	wantDue(t, x, 2, lot(2, 2), lot(4, 2))
	wantAll(t, x, lot(1, 6), lot(3, 4))
	if e := x.Add(lot(5, 2)); e != api.OK {
		t.Errorf("Add = %d", e)
	}
	wantAll(t, x, lot(1, 6), lot(3, 4), lot(5, 2))
	wantDue(t, x, 1)
	wantDue(t, x, 5, lot(3, 4), lot(5, 2))
	wantDue(t, x, 5)
	wantDue(t, x, 6, lot(1, 6))
	wantNone(t, x)
	if e := x.Add(lot(6, 1)); e != api.OK {
		t.Errorf("Add = %d", e)
	}
	wantAll(t, x, lot(6, 1))
	wantNext(t, x, 1)
}

// Each order of some ticks: what is told stands as it was added.
func TestDueEachOrder(t *testing.T) {
	for n := range 4 * 4 * 4 * 4 {
		var all []Lot
		for i, rest := 0, n; i < 4; i, rest = i+1, rest/4 {
			all = append(all, lot(int64(i+1), int64(rest%4)))
		}
		for now := int64(-1); now < 5; now++ {
			x := made(t, all...)
			wantNext(t, x, slices.Min([]int64{all[0].Due, all[1].Due, all[2].Due, all[3].Due}))
			due, left := divided(all, now)
			wantDue(t, x, now, due...)
			wantAll(t, x, left...)
			wantDue(t, x, now)
			wantDue(t, x, greatest, left...)
		}
	}
}

// divided is those of l that are due, and those that are not.
func divided(l []Lot, now int64) (due, left []Lot) {
	left = slices.DeleteFunc(slices.Clone(l), func(o Lot) bool { return o.Due <= now })
	due = slices.DeleteFunc(slices.Clone(l), func(o Lot) bool { return o.Due > now })
	return due, left
}

// P14.1, Held.

func TestHeld(t *testing.T) {
	x := made(t,
		Lot{"ann", "EUR", 5, 9}, Lot{"bob", "EUR", 70, 4}, Lot{"ann", "USD", 600, 1}, Lot{"ann", "EUR", 8000, 2},
		Lot{"anna", "EUR", 1 << 20, 3}, Lot{"an", "EUR", 1 << 21, 3}, Lot{"ann", "EU", 1 << 22, 3}, Lot{"ann", "EURO", 1 << 23, 3},
		Lot{"EUR", "ann", 1 << 24, 3}, Lot{"annE", "UR", 1 << 25, 3}, Lot{"Ann", "EUR", 1 << 26, 3}, Lot{"ann", "eur", 1 << 27, 3},
		Lot{"bob", "EUR", 70, 4})
	held := func(party, currency string, want int64) {
		t.Helper()
		wantHeld(t, x, party, currency, want, api.OK)
	}
	held("ann", "EUR", 8005)
	held("bob", "EUR", 140)
	held("ann", "USD", 600)
	held("anna", "EUR", 1<<20)
	held("an", "EUR", 1<<21)
	held("ann", "EU", 1<<22)
	held("ann", "EURO", 1<<23)
	held("EUR", "ann", 1<<24)
	held("annE", "UR", 1<<25)
	held("Ann", "EUR", 1<<26)
	held("ann", "eur", 1<<27)
	for _, party := range []string{"", "a", "annas", "bo", "cy", "ann\x00", " ann", "annEUR"} {
		held(party, "EUR", 0)
		held(party, "", 0)
	}
	held("ann", "", 0)
	held("ann", "E", 0)
	held("ann", "EUR\x00", 0)
	held("bob", "USD", 0)
	held("", "annEUR", 0)
	wantDue(t, x, 2, Lot{"ann", "USD", 600, 1}, Lot{"ann", "EUR", 8000, 2})
	held("ann", "EUR", 5)
	held("ann", "USD", 0)
	held("bob", "EUR", 140)
	x.Due(9)
	held("ann", "EUR", 0)
	wantNone(t, x)
}

func TestHeldOver(t *testing.T) {
	for _, o := range []struct {
		amounts []int64
		want    int64
		e       api.Errno
	}{
		{[]int64{greatest}, greatest, api.OK},
		{[]int64{greatest - 1, 1}, greatest, api.OK},
		{[]int64{1, greatest - 1}, greatest, api.OK},
		{[]int64{greatest - 2, 1, 1}, greatest, api.OK},
		{[]int64{1 << 62, 1<<62 - 1}, greatest, api.OK},
		{[]int64{greatest, 1}, 0, api.ErrOver},
		{[]int64{1, greatest}, 0, api.ErrOver},
		{[]int64{1 << 62, 1 << 62}, 0, api.ErrOver},
		{[]int64{greatest - 1, 1, 1}, 0, api.ErrOver},
		{[]int64{greatest, greatest}, 0, api.ErrOver},
		// Wrapped round these two are 0 and 1.
		{[]int64{1 << 62, 1 << 62, 1 << 62, 1 << 62}, 0, api.ErrOver},
		{[]int64{greatest, greatest, 3}, 0, api.ErrOver},
	} {
		x := &Lots{}
		var all []Lot
		for i, n := range o.amounts {
			// Others' lots between, which count nothing here.
			for _, l := range []Lot{lot(n, int64(i)), {"bob", "EUR", greatest, 50}, {"ann", "USD", greatest, 50}} {
				if e := x.Add(l); e != api.OK {
					t.Errorf("Add(%+v) = %d", l, e)
				}
				all = append(all, l)
			}
		}
		wantHeld(t, x, "ann", "EUR", o.want, o.e)
		wantAll(t, x, all...)
		// All but the last one are taken: it alone is no more than there may be.
		last := len(o.amounts) - 1
		x.Due(int64(last) - 1)
		wantHeld(t, x, "ann", "EUR", o.amounts[last], api.OK)
	}
}

// P14.1, Next.

func TestNext(t *testing.T) {
	x := &Lots{}
	wantNext(t, x, -1)
	for _, o := range []struct{ due, want int64 }{
		{greatest, greatest}, {7, 7}, {9, 7}, {7, 7}, {5, 5}, {6, 5}, {5, 5}, {1, 1}, {0, 0}, {3, 0},
	} {
		if e := x.Add(Lot{fmt.Sprint("p", o.due), "EUR", 1, o.due}); e != api.OK {
			t.Errorf("Add = %d", e)
		}
		wantNext(t, x, o.want)
		wantNext(t, x, o.want)
	}
	for _, o := range []struct{ now, want int64 }{
		{-1, 0}, {0, 1}, {2, 3}, {4, 5}, {5, 6}, {6, 7}, {6, 7}, {7, 9}, {8, 9}, {9, greatest}, {greatest - 1, greatest}, {greatest, -1},
	} {
		x.Due(o.now)
		wantNext(t, x, o.want)
	}
	wantNone(t, x)
}

// P14.1, Clone.

func TestClone(t *testing.T) {
	all := []Lot{lot(1, 5), lot(2, 3), {"bob", "USD", 3, 4}}
	x := made(t, all...)
	y := x.Clone()
	wantAll(t, y, all...)
	wantNext(t, y, 3)
	wantHeld(t, y, "ann", "EUR", 3, api.OK)
	wantDue(t, y, 3, all[1])
	wantAll(t, y, all[0], all[2])
	wantAll(t, x, all...)

	wantDue(t, x, 4, all[1], all[2])
	wantAll(t, x, all[0])
	wantAll(t, y, all[0], all[2])
}

// What is added to one is not added to the other, nor does it stand in its place.
func TestCloneAdd(t *testing.T) {
	for size := range 20 {
		x := &Lots{}
		for i := range size {
			x.Add(lot(int64(i+1), 5))
		}
		all := x.All()
		y := x.Clone()
		z := y.Clone()
		x.Add(lot(100, 1))
		y.Add(lot(200, 2))
		z.Add(lot(300, 3))
		x.Add(lot(101, 1))
		wantAll(t, x, append(slices.Clone(all), lot(100, 1), lot(101, 1))...)
		wantAll(t, y, append(slices.Clone(all), lot(200, 2))...)
		wantAll(t, z, append(slices.Clone(all), lot(300, 3))...)
		x.Due(greatest)
		x.Add(lot(400, 4))
		wantAll(t, y, append(slices.Clone(all), lot(200, 2))...)
		y.Due(2)
		wantAll(t, x, lot(400, 4))
		wantAll(t, z, append(slices.Clone(all), lot(300, 3))...)
		wantAll(t, y, all...)
	}
}

// What is answered is shared with nothing.

func TestAnswersAreNotShared(t *testing.T) {
	for size := range 20 {
		x := &Lots{}
		var all []Lot
		for i := range size {
			all = append(all, lot(int64(i+1), int64(i%3)))
			x.Add(all[i])
		}
		y := x.Clone()
		spoil(x.All())
		wantAll(t, x, all...)
		due, left := divided(all, 1)
		got := x.Due(1)
		if !slices.Equal(got, due) {
			t.Errorf("Due = %+v, want %+v", got, due)
		}
		ahead := x.All()
		spoil(got)
		wantAll(t, x, left...)
		wantAll(t, y, all...)
		if !slices.Equal(ahead, left) {
			t.Errorf("All = %+v, want %+v", ahead, left)
		}
		spoil(ahead)
		wantAll(t, x, left...)
		wantDue(t, x, greatest, left...)
		wantDue(t, y, greatest, all...)
	}
}

// spoil changes l's elements, and what may lie behind them.
func spoil(l []Lot) {
	whole := l[:cap(l)]
	for i := range whole {
		whole[i] = Lot{"cy", "XXX", -7, -7}
	}
	_ = append(l, Lot{"dee", "XXX", -8, -8})
}

// Answers of one call are not changed by those behind it.
func TestAnswersStay(t *testing.T) {
	x := made(t, lot(1, 5), lot(2, 3), lot(3, 4), lot(4, 3))
	all := x.All()
	first := x.Due(3)
	x.Add(lot(5, 6))
	x.Add(lot(6, 6))
	second := x.Due(5)
	x.Add(lot(7, 7))
	x.Due(9)
	x.Add(lot(8, 8))
	if want := []Lot{lot(1, 5), lot(2, 3), lot(3, 4), lot(4, 3)}; !slices.Equal(all, want) {
		t.Errorf("All was %+v", all)
	}
	if want := []Lot{lot(2, 3), lot(4, 3)}; !slices.Equal(first, want) {
		t.Errorf("Due was %+v", first)
	}
	if want := []Lot{lot(1, 5), lot(3, 4)}; !slices.Equal(second, want) {
		t.Errorf("Due was %+v", second)
	}
}

// To be asked changes nothing.
func TestAskedChangesNothing(t *testing.T) {
	all := []Lot{lot(1, 5), lot(2, 3), lot(greatest, 4)}
	x := made(t, all...)
	for range 3 {
		wantAll(t, x, all...)
		wantNext(t, x, 3)
		wantHeld(t, x, "ann", "EUR", 0, api.ErrOver)
		wantHeld(t, x, "bob", "EUR", 0, api.OK)
		wantDue(t, x, 2)
		wantDue(t, x, least)
		wantAll(t, x.Clone(), all...)
	}
}

// P1 and P2: random lots, against a model whose sums are of any size.

// model is lots, by the number of the call that added them.
type model struct {
	calls int
	lots  map[int]Lot
}

// add is what Add does.
func (m *model) add(l Lot) api.Errno {
	if len(l.Party) == 0 || len(l.Currency) == 0 || min(l.Amount, l.Due) < 0 {
		return api.ErrArg
	}
	m.calls++
	if l.Amount != 0 {
		m.lots[m.calls] = l
	}
	return api.OK
}

// all is those whose Due is at most now, in the order of their calls, and takes them, if asked to.
func (m *model) all(now int64, take bool) []Lot {
	var l []Lot
	for n := 1; n <= m.calls; n++ {
		o, ok := m.lots[n]
		if !ok || o.Due > now {
			continue
		}
		l = append(l, o)
		if take {
			delete(m.lots, n)
		}
	}
	return l
}

// held is what Held tells. No amount is below 0: the sum runs over on its way only if it does at its end.
func (m *model) held(party, currency string) (int64, api.Errno) {
	sum := new(big.Int)
	for _, l := range m.lots {
		if l.Party == party && l.Currency == currency {
			sum.Add(sum, big.NewInt(l.Amount))
		}
	}
	if !sum.IsInt64() {
		return 0, api.ErrOver
	}
	return sum.Int64(), api.OK
}

// next is what Next tells.
func (m *model) next() int64 {
	l := m.all(greatest, false)
	if len(l) == 0 {
		return -1
	}
	slices.SortFunc(l, func(a, b Lot) int { return big.NewInt(a.Due).Cmp(big.NewInt(b.Due)) })
	return l[0].Due
}

// clone is another model, that is alike.
func (m *model) clone() *model {
	other := &model{m.calls, map[int]Lot{}}
	for n, l := range m.lots {
		other.lots[n] = l
	}
	return other
}

var parties, currencies = []string{"ann", "ann", "bob", "an", ""}, []string{"EUR", "EUR", "USD", "EU", ""}

// randomNumber is small, mostly.
func randomNumber(r *rand.Rand) int64 {
	switch r.IntN(12) {
	case 0:
		return edges[r.IntN(len(edges))]
	case 1:
		return r.Int64()
	default:
		return r.Int64N(12)
	}
}

func TestAgainstModel(t *testing.T) {
	for seed := range uint64(300) {
		r := rand.New(rand.NewPCG(seed, 14))
		xs, ms := []*Lots{{}}, []*model{{0, map[int]Lot{}}}
		for range 60 {
			i := r.IntN(len(xs))
			x, m := xs[i], ms[i]
			switch r.IntN(10) {
			case 0:
				now := randomNumber(r)
				if r.IntN(3) > 0 {
					now = m.next()
				}
				wantDue(t, x, now, m.all(now, true)...)
			case 1:
				if len(xs) < 4 {
					xs, ms = append(xs, x.Clone()), append(ms, m.clone())
				}
			default:
				l := Lot{parties[r.IntN(5)], currencies[r.IntN(5)], randomNumber(r), randomNumber(r)}
				want := m.add(l)
				if e := x.Add(l); e != want {
					t.Errorf("Add(%+v) = %d, want %d", l, e, want)
				}
			}
			wantAlike(t, xs, ms)
		}
		if t.Failed() {
			t.Fatalf("seed %d", seed)
		}
	}
}

// wantAlike holds that each lots tells what its model does.
func wantAlike(t *testing.T, xs []*Lots, ms []*model) {
	t.Helper()
	for i, x := range xs {
		wantAll(t, x, ms[i].all(greatest, false)...)
		wantNext(t, x, ms[i].next())
		for _, party := range parties[1:] {
			for _, currency := range currencies[1:] {
				n, e := ms[i].held(party, currency)
				wantHeld(t, x, party, currency, n, e)
			}
		}
	}
}
