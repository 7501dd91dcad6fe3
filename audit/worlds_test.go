package audit

import (
	"fmt"
	"math/rand/v2"
	"testing"

	"souk/api"
	"souk/gate"
	"souk/world"
)

// P22.2: whatever a world does, all money is where it should be.

// market is a world, and the commands that were done in it, but replies.
type market struct {
	w    *world.World
	done []api.Command
}

func opened(t *testing.T, blocks int, text string) *market {
	t.Helper()
	w, e := world.New(blocks, text)
	if e != api.OK {
		t.Fatalf("New(%d, %q): %d", blocks, text, e)
	}
	return &market{w: w}
}

// do does a step. Its command was done, if the engine has it then, though the power may have failed in it; and wasn't, if it had it ahead.
func (m *market) do(t *testing.T, x world.Step) world.Report {
	t.Helper()
	_, had := m.w.Engine().Told(x.C.ID)
	now := m.w.Engine().Now()
	r := m.w.Do(x)
	_, has := m.w.Engine().Told(x.C.ID)
	if !had && has || m.w.Engine().Now() > now {
		m.done = append(m.done, x.C)
	} else if !had && r.E == api.OK {
		t.Fatalf("%v: %v, but it isn't done", x, r)
	}
	return r
}

// held are the totals of a currency, and what the gateway moved, held against P22.2.
func (m *market) held(t *testing.T, currency string) (Totals, int64) {
	t.Helper()
	s := m.w.Engine().State
	x, e := Of(s.Balances(), currency)
	if e != api.OK || !x.Even() {
		t.Fatalf("%s: %+v %d is not even: %v", currency, x, e, s.Balances())
	}
	if net, e := Net(m.done, currency); e != api.OK || net != x.Net || x.Net < 0 {
		t.Fatalf("%s: %d %d is not the Net of %+v: %v", currency, net, e, x, m.done)
	}
	moved, e := Moved(m.w.Gate().Records(), currency)
	if e != api.OK || moved < x.Paid || moved > x.Paid+x.Flight {
		t.Fatalf("%s: %d %d moved, of %+v: %v", currency, moved, e, x, m.w.Gate().Records())
	}
	return x, moved
}

// dice rolls steps.
type dice struct {
	*rand.Rand
	m *market
}

// command is any one but a reply: some have errors, some were told.
func (d dice) command() api.Command {
	name := func(letter string, n int) string { return fmt.Sprint(letter, d.IntN(n)) }
	c := api.Command{Kind: anyOf(d.Rand, "tick", "tick", "tick", "tick", "sale", "sale", "sale", "refund", "chargeback", "reverse", "hold", "free", "free")}
	switch c.Kind {
	case "sale":
		c.ID, c.Currency = name("s", anyOf(d.Rand, 6, 50)), anyOf(d.Rand, "EUR", "EUR", "USD", "GBP", "none")
		c.Amount = anyOf(d.Rand, 1, 99, 250, 1000, 40000, d.Int64N(5000))
		for i := range 1 + d.IntN(3) {
			c.Shares = append(c.Shares, api.Share{Party: parties[(d.IntN(2)+2*i)%5], Weight: 1 + d.Int64N(9)})
		}
	case "refund", "chargeback":
		c.ID, c.About = name("b", anyOf(d.Rand, 4, 60)), name("s", anyOf(d.Rand, 6, 50))
		c.Amount = anyOf(d.Rand, 1, 10, 250, 1000, d.Int64N(2000))
	case "reverse":
		c.ID, c.About = name("v", 40), name("b", anyOf(d.Rand, 4, 60))
	case "hold", "free":
		c.ID, c.About = name("h", 60), anyOf(d.Rand, parties[:5]...)
	}
	return c
}

// step is one in which anything may be: any choices, a reply that is told late, and the power fails.
func (d dice) step() world.Step {
	x := world.Step{C: d.command(), Late: -1}
	for range d.IntN(5) {
		x.Choices = append(x.Choices, anyOf(d.Rand, uint8(d.IntN(8)), uint8(d.IntN(8)), uint8(d.IntN(256))))
	}
	if d.IntN(3) == 0 {
		x.Late = d.IntN(d.m.w.Gate().Waiting()+2) - 1
	}
	if d.IntN(3) == 0 {
		x.Fuse = uint16(1 + d.IntN(anyOf(d.Rand, 4, 12, 60)))
		for range d.IntN(5) {
			x.Keep = append(x.Keep, anyOf(d.Rand, 64, 64, 64, uint8(d.IntN(256))))
		}
	}
	return x
}

func TestNothingIsLost(t *testing.T) {
	seen, kinds := map[string]int{}, map[string]int{}
	for seed := range uint64(60) {
		r := random(seed)
		text := anyOf(r, "tier 0 0%;", "tier 0 10%;", "tier 0 10%; tier 5000 5.5%; cap 2000; category books 2%; tax 20%; reserve 25% 4;", "tier 0 2.9%; minimum 30; tax 7%; reserve 100% 11;")
		m := opened(t, anyOf(r, 70, 400, 1200), text)
		for range 300 {
			d := dice{r, m}
			rep := m.do(t, d.step())
			count(seen, "crashes", rep.Crashed)
			count(seen, "errors", rep.E != api.OK && rep.E != api.ErrCrash)
			count(seen, "full", rep.E == api.ErrFull)
			for _, currency := range []string{"EUR", "USD", "GBP", "none"} {
				x, moved := m.held(t, currency)
				count(seen, "moved, not heard", moved > x.Paid)
				count(seen, "not moved", moved < x.Paid+x.Flight)
				count(seen, "debt", x.Debt > 0)
				count(seen, "reserve", x.Reserve > 0)
				count(seen, "all of these", x.Fee > 0 && x.Tax > 0 && x.Available > 0 && x.Reserve > 0 && x.Flight > 0 && x.Paid > 0 && x.Debt > 0)
			}
			holdParties(t, m.w.Engine().State, "EUR", "USD", "GBP", "none")
		}
		for _, c := range m.done {
			kinds[c.Kind]++
		}
		// At the end the gateway is heard, and all that was moved is paid.
		for range 48 {
			m.do(t, world.Step{C: api.Command{Kind: "tick"}, Late: -1})
			m.held(t, "EUR")
		}
		if m.w.Engine().Room() > 0 {
			x, moved := m.held(t, "EUR")
			count(seen, "to the end", x.Flight == 0 && moved == x.Paid && moved > 0)
		}
	}
	for _, what := range []string{"crashes", "errors", "full", "moved, not heard", "not moved", "debt", "reserve", "all of these"} {
		if seen[what] < 150 {
			t.Error(what, seen)
		}
	}
	for _, kind := range []string{"sale", "refund", "chargeback", "reverse", "hold", "free", "tick"} {
		if kinds[kind] < 50 {
			t.Error(kind, kinds)
		}
	}
	if seen["to the end"] < 15 {
		t.Error(seen)
	}
}

func count(seen map[string]int, what string, is bool) {
	if is {
		seen[what]++
	}
}

// The power fails at each thing of a story's steps, with each choice, whatever of a write stands.
func TestNothingIsLostWhereverItFails(t *testing.T) {
	texts := []string{
		"sale s1 EUR - 1000 ann:1", "sale s2 EUR - 3000 bob:2 ann:1", "tick", "tick", "tick", "tick", "chargeback c1 s2 600", "tick", "tick", "tick", "tick",
		"refund r1 s1 700", "tick", "reverse v1 c1", "tick", "refund r2 s2 3000", "tick", "tick", "sale s3 EUR - 5000 ann:1", "tick", "tick", "tick",
	}
	for choice := range uint8(8) {
		for at := range texts {
			for fuse := range uint16(6) {
				for _, keep := range [][]uint8{nil, {64, 64, 64, 64}, {64, 20}} {
					m := opened(t, 120, "tier 0 10%; tax 20%; reserve 25% 3;")
					for i, c := range asked(t, texts...) {
						x := world.Step{C: c, Choices: []uint8{choice, gate.Accept}, Late: i%3 - 1}
						if i == at {
							x.Fuse, x.Keep = fuse, keep
						}
						m.do(t, x)
						m.held(t, "EUR")
					}
				}
			}
		}
	}
}

// A story written out: what was moved is paid once it is heard, and what was paid may be owed.
func TestWorld(t *testing.T) {
	m := opened(t, 200, "tier 0 10%;")
	for i, x := range []struct {
		text    string
		choices []uint8
		want    Totals
		moved   int64
	}{
		{"sale s1 EUR - 1000 ann:1", nil, Totals{Net: 1000, Fee: 100, Available: 900}, 0},
		{"tick", nil, Totals{Net: 1000, Fee: 100, Available: 900}, 0},
		{"tick", nil, Totals{Net: 1000, Fee: 100, Available: 900}, 0},
		{"tick", nil, Totals{Net: 1000, Fee: 100, Available: 900}, 0},
		{"tick", nil, Totals{Net: 1000, Fee: 100, Available: 900}, 0},
		{"tick", nil, Totals{Net: 1000, Fee: 100, Available: 900}, 0},
		{"tick", nil, Totals{Net: 1000, Fee: 100, Available: 900}, 0},
		{"tick", nil, Totals{Net: 1000, Fee: 100, Available: 900}, 0},
		{"tick", []uint8{gate.AcceptLost}, Totals{Net: 1000, Fee: 100, Flight: 900}, 900},
		{"refund r1 s1 200", nil, Totals{Net: 800, Fee: 80, Flight: 900, Debt: 180}, 900},
		{"tick", nil, Totals{Net: 800, Fee: 80, Flight: 900, Debt: 180}, 900},
		{"tick", nil, Totals{Net: 800, Fee: 80, Paid: 900, Debt: 180}, 900},
		{"refund r1 s1 200", nil, Totals{Net: 800, Fee: 80, Paid: 900, Debt: 180}, 900}, // told again
		{"refund r2 s1 801", nil, Totals{Net: 800, Fee: 80, Paid: 900, Debt: 180}, 900}, // more than there is
		{"chargeback c1 s1 800", nil, Totals{Paid: 900, Debt: 900}, 900},
		{"reverse v1 c1", nil, Totals{Net: 800, Fee: 80, Paid: 900, Debt: 180}, 900},
		{"sale s2 EUR - 400 ann:1", nil, Totals{Net: 1200, Fee: 120, Available: 180, Paid: 900}, 900},
		{"tick", nil, Totals{Net: 1200, Fee: 120, Available: 180, Paid: 900}, 900},
		{"tick", nil, Totals{Net: 1200, Fee: 120, Available: 180, Paid: 900}, 900},
		{"tick", nil, Totals{Net: 1200, Fee: 120, Available: 180, Paid: 900}, 900},
		{"tick", nil, Totals{Net: 1200, Fee: 120, Available: 180, Paid: 900}, 900},
		{"tick", nil, Totals{Net: 1200, Fee: 120, Available: 180, Paid: 900}, 900},
		{"tick", []uint8{gate.DeclineLate}, Totals{Net: 1200, Fee: 120, Flight: 180, Paid: 900}, 900},
	} {
		m.do(t, world.Step{C: asked(t, x.text)[0], Choices: x.choices, Late: -1})
		if got, moved := m.held(t, "EUR"); got != x.want || moved != x.moved {
			t.Fatalf("%d, %s: %+v %d, not %+v %d", i, x.text, got, moved, x.want, x.moved)
		}
	}
	m.do(t, world.Step{C: asked(t, "hold h1 bob")[0], Late: 0})
	if got, moved := m.held(t, "EUR"); got != (Totals{Net: 1200, Fee: 120, Available: 180, Paid: 900}) || moved != 900 {
		t.Fatal(got, moved)
	}
}

// A reply that a step tells of its own is what the promise leaves out: the audit shows that nothing was moved for what is paid.
func TestAReplyOfItsOwn(t *testing.T) {
	m := opened(t, 100, "tier 0 10%;")
	m.do(t, world.Step{C: asked(t, "sale s1 EUR - 1000 ann:1")[0], Late: -1})
	for range 8 {
		m.do(t, world.Step{C: api.Command{Kind: "tick"}, Choices: []uint8{gate.Lost}, Late: -1})
	}
	m.w.Do(world.Step{C: asked(t, "reply 1/EUR/ann accepted 1")[0], Late: -1})
	x, e := Of(m.w.Engine().Balances(), "EUR")
	if e != api.OK || x != (Totals{Net: 1000, Fee: 100, Paid: 900}) || !x.Even() {
		t.Fatal(x, e)
	}
	checkMoved(t, m.w.Gate().Records(), "EUR", 0, api.OK)
}
