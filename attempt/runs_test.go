package attempt

import (
	"fmt"
	"math/rand/v2"
	"slices"
	"testing"

	"souk/api"
	"souk/gate"
)

// run is payouts with a gateway, and all that it ever told.
type run struct {
	t       *testing.T
	g       *gate.Gate
	now     int64
	payouts []Payout
	told    []gate.Reply
	choices []uint8 // by which the gateway was asked
}

// begin is a run of so many payouts that are ready at a tick.
func begin(t *testing.T, count int, now int64) *run {
	x := &run{t: t, g: &gate.Gate{}, now: now}
	for i := range count {
		x.payouts = append(x.payouts, Payout{
			Key:      fmt.Sprint(i),
			Party:    fmt.Sprint("party", i),
			Currency: []string{"EUR", "USD"}[i%2],
			Amount:   int64(100 + 7*i),
			State:    Ready,
			Next:     now + int64(i),
		})
	}
	return x
}

// hear tells a reply to the payout of its key.
func (x *run) hear(r gate.Reply) {
	x.t.Helper()
	for i, p := range x.payouts {
		if p.Key != r.Key {
			continue
		}
		q, changed := p.Hear(r.Kind, r.Attempt, x.now)
		if p.Over() && (changed || q != p) {
			x.t.Fatal("over, but changed:", p, q)
		}
		x.payouts[i] = q
	}
}

// ask lets a payout step, and tells it what the gateway tells at once; false, if nothing is asked.
func (x *run) ask(i int, choose func() uint8) bool {
	x.t.Helper()
	p, r, is := x.payouts[i].Step(x.now)
	x.payouts[i] = p
	if !is {
		return false
	}
	choice := choose()
	x.choices = append(x.choices, choice)
	l := x.g.Ask(r, choice)
	x.told = append(x.told, l...)
	for _, one := range l {
		x.hear(one)
	}
	return true
}

// tick lets all payouts step at a tick, by a choice for each request.
func (x *run) tick(choose func() uint8) {
	x.t.Helper()
	for i := range x.payouts {
		x.ask(i, choose)
		x.check()
	}
	x.now++
}

// late tells what is told late of a number.
func (x *run) late(n int) {
	x.t.Helper()
	if one, ok := x.g.Late(n); ok {
		x.told = append(x.told, one)
		x.hear(one)
		x.check()
	}
}

// check holds the payouts against what the gateway has put down of their keys.
func (x *run) check() {
	x.t.Helper()
	all := x.g.Records()
	for _, p := range x.payouts {
		var l []gate.Record
		for _, r := range all {
			if r.Key == p.Key {
				l = append(l, r)
			}
		}
		if len(l) > 1 {
			x.t.Fatal("twice:", l, x.choices)
		}
		if !p.Over() {
			continue
		}
		want := gate.Record{Key: p.Key, Party: p.Party, Currency: p.Currency, Amount: p.Amount, Moved: p.State == Paid}
		if len(l) != 1 || l[0] != want {
			x.t.Fatal(p, "but the gateway has", l, x.choices)
		}
	}
}

// end is thirty ticks at which the gateway accepts, and tells at once: all payouts are over behind them. Then all that was ever told is told once more, and the gateway is asked again of each key, by each choice: nothing changes.
func (x *run) end(meanwhile func()) {
	x.t.Helper()
	for range 30 {
		x.tick(func() uint8 { return gate.Accept })
		meanwhile()
	}
	for _, p := range x.payouts {
		if !p.Over() {
			x.t.Fatal("not over:", p, x.now, x.choices)
		}
	}
	over, known := slices.Clone(x.payouts), x.g.Records()
	for x.g.Waiting() > 0 {
		x.late(0)
	}
	for _, one := range slices.Clone(x.told) {
		x.hear(one)
	}
	for _, p := range over {
		for choice := range 8 {
			for _, kind := range []string{"pay", "query"} {
				r := api.Request{Kind: kind, Key: p.Key, Party: p.Party, Currency: p.Currency, Amount: p.Amount, Attempt: p.Attempt + 1}
				for _, one := range x.g.Ask(r, uint8(choice)) {
					x.hear(one)
				}
			}
		}
	}
	x.check()
	if !slices.Equal(x.payouts, over) || !slices.Equal(x.g.Records(), known) {
		x.t.Fatal(over, x.payouts, known, x.g.Records())
	}
}

// nothing is what happens meanwhile, where nothing does.
func nothing() {}

// lates are ways in which what is told late comes in, at a tick: never, all as it came, all the other way round, the last one alone, and all that was ever told once more.
func (x *run) lates() []func() {
	return []func(){
		nothing,
		func() {
			for x.g.Waiting() > 0 {
				x.late(0)
			}
		},
		func() {
			for n := x.g.Waiting() - 1; n >= 0; n-- {
				x.late(n)
			}
		},
		func() { x.late(x.g.Waiting() - 1) },
		func() {
			for x.g.Waiting() > 0 {
				x.late(0)
			}
			for _, one := range slices.Backward(slices.Clone(x.told)) {
				x.hear(one)
				x.check()
			}
		},
	}
}

// P17.2, P17.3: each row of four choices, and each way in which what is told late comes in; from each of its ticks on, thirty ticks bring it to its end.
func TestAllChoices(t *testing.T) {
	const rows = 8 * 8 * 8 * 8
	for way := range 5 {
		for row := range rows {
			x := begin(t, 1, 1)
			left, asked := row, 0
			choose := func() uint8 {
				choice := left % 8
				left, asked = left/8, asked+1
				return uint8(choice)
			}
			for asked < 4 && !x.payouts[0].Over() && x.now < 100 {
				x.tick(choose)
				x.lates()[way]()
			}
			x.end(x.lates()[way])
		}
	}
}

// P17.2: what a payout ends as, written out.
func TestEnds(t *testing.T) {
	for _, c := range []struct {
		choices []uint8
		state   string
		now     int64
	}{
		{[]uint8{gate.Accept}, Paid, 1},
		{[]uint8{gate.AcceptTwice}, Paid, 1},
		{[]uint8{gate.Decline}, Back, 1},
		{[]uint8{gate.AcceptLost, gate.Accept}, Paid, 3},
		{[]uint8{gate.AcceptLost, gate.Decline}, Paid, 3},
		{[]uint8{gate.DeclineLost, gate.Accept}, Back, 3},
		{[]uint8{gate.DeclineLate, gate.AcceptTwice}, Back, 3},
		{[]uint8{gate.AcceptLost, gate.Lost, gate.Accept}, Paid, 5},
		{[]uint8{gate.AcceptLost, gate.Lost, gate.Lost, gate.Decline}, Paid, 8},
		{[]uint8{gate.Lost, gate.Accept, gate.Accept}, Paid, 4},
		{[]uint8{gate.Lost, gate.Decline, gate.Decline}, Back, 4},
		{[]uint8{gate.Lost, gate.AcceptTwice, gate.Accept}, Paid, 4},
		{[]uint8{gate.Lost, gate.Lost, gate.Accept, gate.Accept}, Paid, 7},
		{[]uint8{gate.Lost, gate.Accept, gate.Lost, gate.Accept, gate.Accept}, Paid, 8},
	} {
		x := begin(t, 1, 1)
		left := c.choices
		for !x.payouts[0].Over() && x.now < 100 {
			x.tick(func() uint8 {
				if len(left) == 0 {
					return gate.Lost
				}
				choice := left[0]
				left = left[1:]
				return choice
			})
		}
		if x.payouts[0].State != c.state || x.now-1 != c.now || len(left) > 0 {
			t.Error(c.choices, x.payouts[0], x.now-1)
		}
		x.end(nothing)
	}
}

// P17.2: as long as nothing is ever told, it is neither paid nor back.
func TestNothingTold(t *testing.T) {
	for _, choice := range []uint8{gate.Lost, gate.AcceptLost, gate.DeclineLost, gate.AcceptLate, gate.DeclineLate} {
		x := begin(t, 2, -5)
		for range 300 {
			x.tick(func() uint8 { return choice })
		}
		for _, p := range x.payouts {
			if p.State != Queried {
				t.Error(choice, p)
			}
		}
		x.end(nothing)
	}
}

// mix is random choices, of which some come more often than others.
func mix(r *rand.Rand) func() uint8 {
	favoured, often := uint8(r.IntN(8)), r.IntN(10)
	return func() uint8 {
		if r.IntN(10) < often {
			return favoured
		}
		return uint8(r.IntN(256))
	}
}

// stir tells some of what is told late, in any order, and some of what was told, again.
func (x *run) stir(r *rand.Rand) {
	x.t.Helper()
	for range r.IntN(3) {
		x.late(r.IntN(x.g.Waiting() + 1))
	}
	for range r.IntN(3) {
		if len(x.told) > 0 {
			x.hear(x.told[r.IntN(len(x.told))])
			x.check()
		}
	}
}

// P17.2, P17.3: long runs of some payouts with one gateway, by any choices, with what is told late told in any order, and all told again at any time.
func TestRuns(t *testing.T) {
	r := rand.New(rand.NewPCG(17, 2))
	ends := map[string]int{}
	for range 3000 {
		x := begin(t, 1+r.IntN(4), r.Int64N(100)-50)
		choose := mix(r)
		for range r.IntN(120) {
			x.tick(choose)
			x.stir(r)
		}
		// By then each has begun: what the thirty ticks are promised of.
		for range 4 {
			x.tick(choose)
		}
		x.end([]func(){nothing, func() { x.stir(r) }}[r.IntN(2)])
		for _, p := range x.payouts {
			ends[p.State]++
		}
	}
	if ends[Paid] < 500 || ends[Back] < 500 {
		t.Error("too few of each:", ends)
	}
}

// P17.2, P17.3: at most ticks nothing is asked, and ticks may be passed over.
func TestTicksPassedOver(t *testing.T) {
	r := rand.New(rand.NewPCG(17, 3))
	for range 1000 {
		x := begin(t, 2, 0)
		choose := mix(r)
		for range r.IntN(60) {
			x.tick(choose)
			x.stir(r)
			x.now += r.Int64N(20)
		}
		x.end(nothing)
	}
}

// P17.3: of each State that isn't over, Next as far ahead as a step or a reply can set it, and each thing that the gateway may have decided.
func TestThirtyTicks(t *testing.T) {
	for _, state := range []string{Ready, Asked, Queried} {
		for ahead := int64(-3); ahead <= api.Wait+api.Cap; ahead++ {
			for tries := range int64(7) {
				for decided := range 3 {
					x := begin(t, 1, 40)
					x.payouts[0].State, x.payouts[0].Next = state, x.now-1+ahead
					x.payouts[0].Tries, x.payouts[0].Attempt = tries, 4
					r := api.Request{Kind: "pay", Key: "0", Party: "party0", Currency: "EUR", Amount: 100, Attempt: 1}
					x.g.Ask(r, [3]uint8{gate.Lost, gate.AcceptLost, gate.DeclineLost}[decided])
					x.end(nothing)
					if want := [3]string{Paid, Paid, Back}[decided]; x.payouts[0].State != want {
						t.Error(state, ahead, tries, decided, x.payouts[0])
					}
				}
			}
		}
	}
}

// P17.2: an unknown that is older than the last attempt may be wrong by now, and changes nothing.
func TestOldUnknown(t *testing.T) {
	x := begin(t, 1, 1)
	left := []uint8{gate.Lost, gate.AcceptLate, gate.AcceptLate, gate.AcceptLost}
	choose := func() uint8 {
		choice := left[0]
		left = left[1:]
		return choice
	}
	for x.g.Waiting() < 2 {
		x.tick(choose)
	}
	x.late(0)
	if p := x.payouts[0]; p.State != Queried || p.Attempt != 3 {
		t.Fatal("by the old one:", p)
	}
	x.late(0)
	if p := x.payouts[0]; p.State != Ready || p.Attempt != 3 || p.Tries != 2 {
		t.Fatal("by its own:", p)
	}
	for len(left) > 0 {
		x.tick(choose)
	}
	again := x.payouts[0]
	for _, one := range x.told {
		x.hear(one)
	}
	if x.payouts[0] != again || again.State != Asked {
		t.Fatal("told again:", again, x.payouts[0])
	}
	x.end(nothing)
	if x.payouts[0].State != Paid {
		t.Error(x.payouts[0])
	}
}
