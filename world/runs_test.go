package world

import (
	"fmt"
	"math/rand/v2"
	"slices"
	"strings"
	"testing"

	"souk/api"
	"souk/attempt"
	"souk/book"
	"souk/gate"
)

// P21.2, P21.3: whatever is done, in any order, and whatever fails.

func anyOf[T any](r *rand.Rand, l ...T) T { return l[r.IntN(len(l))] }

// anyCommand is one of which much can be done, some has an error, and some was told.
func anyCommand(r *rand.Rand) api.Command {
	sale, other := fmt.Sprint("s", r.IntN(anyOf(r, 5, 60))), fmt.Sprint("x", r.IntN(200))
	party, amount := anyOf(r, parties...), anyOf(r, 1, 50, 200, 1000, 1000, 50000, r.Int64N(3000))
	switch r.IntN(16) {
	case 0, 1, 2:
		var shares []api.Share
		for range 1 + r.IntN(3) {
			shares = append(shares, api.Share{Party: anyOf(r, parties...), Weight: r.Int64N(20)})
		}
		return api.Command{Kind: "sale", ID: sale, Currency: anyOf(r, "EUR", "EUR", "EUR", "USD", "USD", "eur"), Category: anyOf(r, "", "books"), Amount: amount, Shares: shares}
	case 3:
		return api.Command{Kind: "refund", ID: other, About: sale, Amount: amount}
	case 4:
		return api.Command{Kind: "chargeback", ID: fmt.Sprint("c", r.IntN(4)), About: sale, Amount: amount}
	case 5:
		return api.Command{Kind: "reverse", ID: other, About: fmt.Sprint("c", r.IntN(4))}
	case 6:
		return api.Command{Kind: anyOf(r, "hold", "free", "free", "free"), ID: other, About: party}
	default:
		return api.Command{Kind: "tick"}
	}
}

// anyReply is one that no gateway told.
func anyReply(r *rand.Rand, p *pair) api.Command {
	c := api.Command{Kind: "reply", About: "1/EUR/ann", Category: anyOf(r, gate.Accepted, gate.Declined, gate.Unknown, "busy"), Amount: r.Int64N(5)}
	if l := p.w.Engine().Payouts(); len(l) > 0 {
		x := anyOf(r, l...)
		c.About, c.Amount = x.Key, max(0, x.Attempt-r.Int64N(2))
	}
	return c
}

func anyBytes(r *rand.Rand, most int, l ...uint8) []uint8 {
	bytes := make([]uint8, r.IntN(most+1))
	for i := range bytes {
		bytes[i] = anyOf(r, append(l, uint8(r.IntN(256)))...)
	}
	return bytes
}

// anyStep is one in which the gateway does anything, something may be told late, and sometimes the power fails.
func anyStep(r *rand.Rand, p *pair) Step {
	x := Step{C: anyCommand(r), Late: -1}
	x.Choices = anyBytes(r, 4, gate.Lost, gate.Accept, gate.Accept, gate.AcceptTwice, gate.AcceptLate, gate.DeclineLate, gate.AcceptLost)
	x.Keep = anyBytes(r, 5, 0, 1, 30, 63, 64, 64, 64, 64, 64, 255)
	if r.IntN(2) == 0 {
		x.Fuse = uint16(anyOf(r, 1, 2, 2, 3, 3, 4, 4, 5, 6, 7, 8, 100, r.IntN(1<<16)))
	}
	if r.IntN(3) == 0 {
		x.Late = r.IntN(p.w.Gate().Waiting()+3) - 1
	}
	return x
}

// Steps of any sort, those that tell replies of their own, too; and another world is told the same (P2).
func TestAnySteps(t *testing.T) {
	kinds, errors, crashes := map[string]int{}, map[api.Errno]int{}, [2]int{}
	for seed := range uint64(60) {
		r := rand.New(rand.NewPCG(seed, 1))
		blocks, text := anyOf(r, 30, 300, 800, 800), anyOf(r, tenth, reserved)
		p := begin(t, blocks, text)
		other := made(t, blocks, text)
		for range 200 {
			x := anyStep(r, p)
			if r.IntN(6) == 0 {
				x.C = anyReply(r, p)
			}
			got := p.do(t, x)
			if again := other.Do(x); again != got || look(other.Engine()) != look(p.w.Engine()) {
				t.Fatalf("Do(%v): %v, and %v", x, got, again)
			}
			errors[got.E]++
			if got.E == api.OK {
				kinds[x.C.Kind]++
			}
			if got.Crashed {
				crashes[min(1, got.Heard)]++
			}
		}
		p.waiting(t)
	}
	if len(kinds) != 8 || kinds["reverse"] < 20 || crashes[0] < 500 || crashes[1] < 20 || len(errors) != 8 {
		t.Fatal(kinds, errors, crashes)
	}
}

// whose is a party's, in a currency.
type whose struct{ party, currency string }

// exactlyOnce holds a world in which no step told a reply of its own against P21.2.
func exactlyOnce(t *testing.T, p *pair) {
	t.Helper()
	payouts := p.w.Engine().Payouts()
	known := map[string]gate.Record{}
	for _, x := range p.w.Gate().Records() {
		if _, twice := known[x.Key]; twice {
			t.Fatalf("%s has two records", x.Key)
		}
		known[x.Key] = x
	}
	heard := repliesOf(t, p.w)
	keys, flight, paid, open := map[string]bool{}, map[whose]int64{}, map[whose]int64{}, map[whose]int{}
	for _, x := range payouts {
		period, behind, _ := strings.Cut(x.Key, "/")
		if keys[x.Key] || behind != x.Currency+"/"+x.Party || period == "" || strings.Trim(period, "0123456789") != "" || x.Amount < api.Threshold {
			t.Fatal("a payout twice, or of none's key:", x)
		}
		keys[x.Key] = true
		of := whose{x.Party, x.Currency}
		record, asked := known[x.Key]
		if want := (gate.Record{Key: x.Key, Party: x.Party, Currency: x.Currency, Amount: x.Amount, Moved: record.Moved}); asked && record != want {
			t.Fatal("another one is known:", record, x)
		}
		delete(known, x.Key)
		switch {
		case x.State == attempt.Paid && asked && record.Moved && heard[x.Key] == gate.Accepted:
			paid[of] += x.Amount
		case x.State == attempt.Back && asked && !record.Moved && heard[x.Key] == gate.Declined:
		case !x.Over() && heard[x.Key] == "":
			flight[of] += x.Amount
			open[of]++
		default:
			t.Fatal(x, "but the gateway has", record, asked, "and told", heard[x.Key])
		}
	}
	if len(known) > 0 {
		t.Fatal("money is moved for nothing:", known)
	}
	left := leftOf(t, p.w)
	for _, party := range parties {
		for _, currency := range []string{"EUR", "USD"} {
			of := whose{party, currency}
			is := func(kind string) int64 { return p.w.Engine().Balance(kind, party, currency) }
			if is(book.Flight) != flight[of] || is(book.Paid) != paid[of] || open[of] > 1 {
				t.Fatal(of, is(book.Flight), is(book.Paid), payouts)
			}
			// All that was sold for it, and not taken back, is somewhere, and once.
			if sum := is(book.Available) + is(book.Reserve) + is(book.Flight) + is(book.Paid) + is(book.Debt); sum != left[of] {
				t.Fatal(of, "has", sum, "of", left[of])
			}
		}
	}
}

// repliesOf is what was heard of each key, as it stands on the disk: accepted, or declined.
func repliesOf(t *testing.T, w *World) map[string]string {
	t.Helper()
	heard := map[string]string{}
	for _, c := range standing(t, w) {
		if c.Kind != "reply" || c.Category == gate.Unknown {
			continue
		}
		if was := heard[c.About]; was != "" && was != c.Category {
			t.Fatalf("%s is %s, and %s", c.About, was, c.Category)
		}
		heard[c.About] = c.Category
	}
	return heard
}

// leftOf is what is left of each party's sales.
func leftOf(t *testing.T, w *World) map[whose]int64 {
	t.Helper()
	left := map[whose]int64{}
	for _, c := range standing(t, w) {
		if c.Kind != "sale" {
			continue
		}
		l, ok := w.Engine().Left(c.ID)
		if !ok || len(l) != len(c.Shares)+2 {
			t.Fatal(c, l)
		}
		for i, s := range c.Shares {
			left[whose{s.Party, c.Currency}] += l[i+2]
		}
	}
	return left
}

// P21.2: money is moved once at most, whatever is done, lost, told twice, told late, and whenever the power fails.
func TestExactlyOnce(t *testing.T) {
	states, crashes := map[string]int{}, 0
	for seed := range uint64(60) {
		r := rand.New(rand.NewPCG(seed, 2))
		p := begin(t, anyOf(r, 60, 900, 900), anyOf(r, tenth, reserved, "tier 0 0%;"))
		for range 300 {
			was := p.w.Gate().Records()
			if r := p.do(t, anyStep(r, p)); r.Crashed {
				crashes++
			}
			if now := p.w.Gate().Records(); !slices.Equal(now[:min(len(was), len(now))], was) {
				t.Fatal("what was decided is another thing:", was, now)
			}
			if r.IntN(5) == 0 {
				exactlyOnce(t, p)
			}
		}
		for _, x := range p.w.Engine().Payouts() {
			states[x.State]++
		}
	}
	if states[attempt.Paid] < 200 || states[attempt.Back] < 20 || states[attempt.Asked]+states[attempt.Queried] < 10 || crashes < 1000 {
		t.Fatal(states, crashes)
	}
}

// toTheEnd does 48 ticks at which the gateway accepts, and tells at once: what was available is paid.
func toTheEnd(t *testing.T, p *pair, choices ...uint8) {
	t.Helper()
	type row struct {
		whose
		available, paid int64
	}
	var rows []row
	for _, party := range parties {
		for _, currency := range []string{"EUR", "USD"} {
			if available := p.w.Engine().Balance(book.Available, party, currency); available >= 100 && !p.w.Engine().Held(party) {
				rows = append(rows, row{whose{party, currency}, available, p.w.Engine().Balance(book.Paid, party, currency)})
			}
		}
	}
	for range 48 {
		if r := p.do(t, step("tick", choices...)); r.E != api.OK {
			t.Fatal(r)
		}
	}
	for _, x := range rows {
		if paid := p.w.Engine().Balance(book.Paid, x.party, x.currency); paid < x.paid+x.available {
			t.Fatalf("%d of %v, of %d, and %d more", paid, x.whose, x.paid, x.available)
		}
	}
	for _, x := range p.w.Engine().Payouts() {
		if !x.Over() {
			t.Fatal(x)
		}
	}
}

// P21.3, from anything on.
func TestToTheEnd(t *testing.T) {
	for seed := range uint64(50) {
		r := rand.New(rand.NewPCG(seed, 3))
		p := begin(t, 1500, anyOf(r, tenth, reserved, "tier 0 0%;"))
		for range 4 {
			lost := r.IntN(3) == 0
			for range 1 + r.IntN(40) {
				x := anyStep(r, p)
				if lost {
					x.Choices = anyBytes(r, 3, gate.Lost, gate.Lost, gate.AcceptLost, gate.DeclineLost)
				}
				p.do(t, x)
			}
			toTheEnd(t, p, anyOf(r, nil, []uint8{gate.Accept}, []uint8{gate.AcceptTwice, gate.Accept}, []uint8{9, 13})...)
			exactlyOnce(t, p)
		}
	}
}

// P21.3, beside a payout of which nothing is told for any while, from each tick on, by each choice.
func TestToTheEndBehindAnyWhile(t *testing.T) {
	for choice := range uint8(8) {
		for while := range 50 {
			p := begin(t, 600, tenth)
			p.all(t, "sale s1 EUR - 1000 ann:1")
			p.ticks(t, 8+while, choice)
			p.all(t, "sale s2 EUR - 112 ann:1")
			if available := p.balance(book.Available, "ann"); available < 101 {
				t.Fatal(available)
			}
			toTheEnd(t, p)
			exactlyOnce(t, p)
		}
	}
}

// P21.3's edges: 100 are paid, 99 aren't; nor is who is held.
func TestToTheEndOfTheLeast(t *testing.T) {
	p := begin(t, 600, "tier 0 0%;")
	p.all(t, "sale s1 EUR - 99 ann:1", "sale s2 EUR - 100 bob:1", "sale s3 EUR - 100 cy:1", "hold h1 cy")
	toTheEnd(t, p)
	if p.balance(book.Paid, "ann") != 0 || p.balance(book.Paid, "bob") != 100 || p.balance(book.Paid, "cy") != 0 {
		t.Fatal(look(p.w.Engine()))
	}
	p.all(t, "free f1 cy", "sale s4 EUR - 1 ann:1")
	toTheEnd(t, p)
	if p.balance(book.Paid, "ann") != 100 || p.balance(book.Paid, "cy") != 100 {
		t.Fatal(look(p.w.Engine()))
	}
}

// A payout that is declined is back once, though it is told twice, late, and again once it was asked anew.
func TestBackOnce(t *testing.T) {
	p := begin(t, 300, tenth)
	p.all(t, "sale s1 EUR - 1000 ann:1")
	p.ticks(t, 8, gate.DeclineLate)
	p.ticks(t, 2, gate.DeclineLate)
	p.ticks(t, 3, gate.DeclineLate)
	for p.w.Gate().Waiting() > 1 {
		p.do(t, late("hold h1 x", 0))
		if p.balance(book.Available, "ann") != 900 || p.balance(book.Flight, "ann") != 0 {
			t.Fatal(look(p.w.Engine()))
		}
	}
	p.ticks(t, 2)
	p.ticks(t, 1, gate.AcceptLost)
	p.expect(t, late("hold h1 x", 0), did("hold", 1, 1))
	if p.balance(book.Available, "ann") != 0 || p.balance(book.Flight, "ann") != 900 {
		t.Fatal(look(p.w.Engine()))
	}
	toTheEnd(t, p)
	exactlyOnce(t, p)
}
