package script

import (
	"fmt"
	"math/rand/v2"
	"slices"
	"strings"
	"testing"

	"souk/api"
	"souk/attempt"
	"souk/audit"
	"souk/book"
	"souk/command"
)

// P23.1 by lines of any sort; and what the great promises say of them.

var parties = []string{"ann", "bob", "cy", "a/b", "dee"}

var currencies = []string{"EUR", "USD", "GBP"}

func anyOf[T any](r *rand.Rand, l ...T) T { return l[r.IntN(len(l))] }

// dice rolls lines.
type dice struct {
	*rand.Rand
	p *pair
}

func random(seed uint64, p *pair) dice { return dice{rand.New(rand.NewPCG(seed, 23)), p} }

// numbers are so many at most, as words.
func (d dice) numbers(most, below int, l ...int) string {
	var s string
	for range d.IntN(most + 1) {
		s += fmt.Sprint(" ", anyOf(d.Rand, append(l, d.IntN(below))...))
	}
	return s
}

// order is a line that is no command: of any kind.
func (d dice) order() string {
	switch d.IntN(10) {
	case 0, 1, 2, 3:
		return "choose" + d.numbers(5, 256, 0, 0, 0, 1, 2, 3, 5, 6, 6, 7)
	case 4, 5:
		return fmt.Sprint("late ", anyOf(d.Rand, 0, 0, 0, 1, 2, d.p.own.Gate().Waiting(), d.IntN(1001)))
	case 6, 7:
		return fmt.Sprint("fail ", anyOf(d.Rand, 0, 1, 1, 2, 2, 3, 3, 4, 5, 6, 8, 12, d.IntN(1001))) + d.numbers(5, 65, 0, 1, 30, 60, 61, 64, 64, 64, 64)
	case 8:
		return anyOf(d.Rand, "balances", "payouts")
	default:
		return "totals " + anyOf(d.Rand, anyOf(d.Rand, currencies...), "", "none")
	}
}

// wrong is no line, or seldom one, that is near another.
func (d dice) wrong() string {
	if d.IntN(3) == 0 {
		return anyOf(d.Rand, wrongLines...)
	}
	s := anyOf(d.Rand, d.order(), d.command())
	at := d.IntN(len(s))
	switch d.IntN(3) {
	case 0:
		return s[:at] + s[at+1:]
	case 1:
		return s[:at] + anyOf(d.Rand, " ", "0", "x", "\t") + s[at:]
	}
	return s[:at] + string([]byte{byte(d.IntN(256))}) + s[at+1:]
}

// command is any one but a reply: some have errors, some were told.
func (d dice) command() string {
	name := func(letter string, n int) string { return fmt.Sprint(letter, d.IntN(n)) }
	amount := anyOf(d.Rand, 1, 99, 250, 1000, 40000, 1+d.IntN(5000))
	// What is chosen is seen best at a tick.
	if (d.p.next.Fuse > 2 || len(d.p.next.Choices) > 0) && d.IntN(2) == 0 {
		return "tick"
	}
	switch kind := anyOf(d.Rand, "tick", "tick", "tick", "tick", "sale", "sale", "sale", "refund", "chargeback", "reverse", "hold", "free", "free"); kind {
	case "sale":
		s := fmt.Sprint("sale ", name("s", anyOf(d.Rand, 6, 50)), " ", anyOf(d.Rand, currencies...), " ", anyOf(d.Rand, "-", "-", "books"), " ", amount)
		from := d.IntN(len(parties))
		for i := range 1 + d.IntN(3) {
			s += fmt.Sprint(" ", parties[(from+i)%len(parties)], ":", 1+d.IntN(9))
		}
		return s
	case "refund", "chargeback":
		return fmt.Sprint(kind, " ", name("b", anyOf(d.Rand, 4, 60)), " ", name("s", anyOf(d.Rand, 6, 50)), " ", amount)
	case "reverse":
		return fmt.Sprint("reverse ", name("v", 40), " ", name("b", anyOf(d.Rand, 4, 60)))
	case "hold", "free":
		return fmt.Sprint(kind, " ", name("h", 60), " ", anyOf(d.Rand, parties...))
	}
	return "tick"
}

// reply is one that no gateway told.
func (d dice) reply() string {
	key, n := "1/EUR/ann", d.Int64N(5)
	if l := d.p.own.Engine().Payouts(); len(l) > 0 {
		x := anyOf(d.Rand, l...)
		key, n = x.Key, max(0, x.Attempt-d.Int64N(2))
	}
	return fmt.Sprint("reply ", key, " ", anyOf(d.Rand, "accepted", "declined", "unknown", "busy"), " ", n)
}

// line is one of any kind, but a reply.
func (d dice) line() string {
	switch d.IntN(10) {
	case 0:
		return d.wrong()
	case 1, 2, 3, 4:
		return d.order()
	}
	return d.command()
}

// Lines of any kind, replies of their own too: the pair holds each against layer 21; and another desk is told the same (P2).
func TestAnyLines(t *testing.T) {
	first, errs, crashed := map[string]int{}, map[api.Errno]int{}, 0
	for seed := range uint64(60) {
		p := begin(t, []int{20, 300, 900}[seed%3], []string{tenth, reserved}[seed%2])
		other := opened(t, []int{20, 300, 900}[seed%3], []string{tenth, reserved}[seed%2])
		d := random(seed, p)
		for range 400 {
			s := d.line()
			if d.IntN(8) == 0 {
				s = d.reply()
			}
			told, e := p.line(t, s)
			again, f := other.Line(s)
			if !slices.Equal(told, again) || e != f {
				t.Fatalf("Line(%q): %q %d, and %q %d", s, told, e, again, f)
			}
			errs[e]++
			word, _, _ := strings.Cut(s, " ")
			if e == api.OK {
				first[word]++
			}
			if len(told) == 1 && strings.HasSuffix(told[0], " crashed") {
				crashed++
			}
		}
		if look(p.own) != look(other.World()) {
			t.Fatal(look(p.own), look(other.World()))
		}
	}
	for _, word := range []string{"choose", "late", "fail", "balances", "payouts", "totals", "sale", "refund", "chargeback", "reverse", "hold", "free", "tick", "reply"} {
		if first[word] < 20 {
			t.Error(word, first)
		}
	}
	for _, e := range []api.Errno{api.OK, api.ErrForm, api.ErrFull, api.ErrCrash, api.ErrNone, api.ErrMore} {
		if errs[e] < 40 {
			t.Error(e, errs)
		}
	}
	if errs[api.ErrState] == 0 || crashed < 20 {
		t.Error(errs, crashed)
	}
}

// Lines tells of many at once what Line tells of each.
func TestAnyLinesAtOnce(t *testing.T) {
	for seed := range uint64(30) {
		p := begin(t, 400, reserved)
		d := random(seed, p)
		var l []string
		for range 300 {
			l = append(l, anyOf(d.Rand, d.line(), d.line(), d.line(), d.reply()))
		}
		told, wrong := p.d.Lines(l...)
		if len(told) != len(l) || len(wrong) != len(l) {
			t.Fatal(len(told), len(wrong))
		}
		for i, s := range l {
			if want, e := p.model(s); !slices.Equal(told[i], want) || wrong[i] != e {
				t.Fatalf("%d, %q: %q %d, not %q %d", i, s, told[i], wrong[i], want, e)
			}
		}
		p.alike(t, "all")
	}
}

// run is a pair of which it is known which commands were done; no line of it is a reply of its own.
type run struct {
	*pair
	done []api.Command
}

// line does one, and puts down what it did: a command was done, if the engine has it then, though the power may have failed in it, and hadn't ahead.
func (r *run) line(t *testing.T, s string) ([]string, api.Errno) {
	t.Helper()
	c, _ := command.Parse(s)
	_, had := r.own.Engine().Told(c.ID)
	now := r.own.Engine().Now()
	told, e := r.pair.line(t, s)
	_, has := r.own.Engine().Told(c.ID)
	if !had && has || r.own.Engine().Now() > now {
		r.done = append(r.done, c)
	}
	return told, e
}

// even holds the totals of each currency against P22.2, by what lines tell; how many have something.
func (r *run) even(t *testing.T, s string) int {
	t.Helper()
	some := 0
	for _, currency := range append(slices.Clone(currencies), "", "none") {
		// The own desk's line alone: that it is the pair's is told by the run's lines.
		told, e := r.d.Line("totals " + currency)
		var net, fee, tax, paid int64
		var take, parity string
		if n, _ := fmt.Sscanf(strings.Join(told, "\n"), "net %d fee %d tax %d paid %d take %s %s", &net, &fee, &tax, &paid, &take, &parity); e != api.OK || n != 6 || parity != "even" {
			t.Fatalf("behind %q: %s: %q %d", s, currency, told, e)
		}
		if want, f := audit.Net(r.done, currency); f != api.OK || net != want {
			t.Fatalf("behind %q: %s: %q, not %d %d", s, currency, told, want, f)
		}
		moved, _ := audit.Moved(r.own.Gate().Records(), currency)
		flight := int64(0)
		for _, x := range r.own.Engine().Payouts() {
			if x.Currency == currency && !x.Over() {
				flight += x.Amount
			}
		}
		if moved < paid || moved > paid+flight {
			t.Fatalf("behind %q: %s: %q, but %d moved", s, currency, told, moved)
		}
		if net > 0 && fee > 0 && paid > 0 {
			some++
		}
	}
	return some
}

// again asks an event that was told once more: it is told the same, and changes nothing of what is told (P19.2).
func (r *run) again(t *testing.T, s string, was api.Command) {
	t.Helper()
	want, ok := r.own.Engine().Told(was.ID)
	if !ok {
		t.Fatalf("behind %q: %v was done, but isn't told", s, was)
	}
	text, _ := command.Print(was)
	balances, payouts := balancesOf(r.own), payoutsOf(r.own)
	told, e := r.pair.line(t, text)
	if e != api.OK || !slices.Equal(told, []string{fmt.Sprintf("%s %d heard 0", want.Kind, want.N)}) {
		t.Fatalf("%q again: %q %d, not %v", text, told, e, want)
	}
	if !slices.Equal(balancesOf(r.own), balances) || !slices.Equal(payoutsOf(r.own), payouts) {
		t.Fatalf("%q again: %q %q", text, balancesOf(r.own), payoutsOf(r.own))
	}
}

// TestTheGreatPromises: behind each line the totals are even (P22.2), events stay told (P19.2), and at the end all payouts are over (P21.3).
func TestTheGreatPromises(t *testing.T) {
	some, again, ended, open := 0, 0, 0, 0
	for seed := range uint64(40) {
		text := []string{tenth, reserved, "tier 0 0%;", "tier 0 2.9%; minimum 30; tax 7%; reserve 100% 11;"}[seed%4]
		r := &run{pair: begin(t, 3000, text)}
		d := random(seed, r.pair)
		for range 300 {
			s := d.line()
			r.line(t, s)
			some += r.even(t, s)
			// What is chosen for the next step would be this event's.
			if was := eventOf(d, r.done); was.ID != "" && d.IntN(4) == 0 && r.next.Late < 0 && r.next.Fuse == 0 {
				r.again(t, s, was)
				some += r.even(t, s)
				again++
			}
		}
		// What begins at the last cut-off is lost, moved, or both.
		for range api.Cut {
			for _, s := range []string{"choose" + d.numbers(5, 256, 0, 2, 4, 6, 7), "tick"} {
				r.line(t, s)
				some += r.even(t, s)
			}
		}
		open += stillOpen(r.pair)
		r.end(t)
		ended += len(r.own.Engine().Payouts())
	}
	if some < 3000 || again < 1000 || ended < 300 || open < 20 {
		t.Fatal(some, again, ended, open)
	}
}

// eventOf is any command that was done, and has an ID; none of few.
func eventOf(d dice, done []api.Command) api.Command {
	if len(done) == 0 {
		return api.Command{}
	}
	return anyOf(d.Rand, done...)
}

// stillOpen is how many payouts aren't over.
func stillOpen(p *pair) int {
	n := 0
	for _, x := range p.own.Engine().Payouts() {
		if !x.Over() {
			n++
		}
	}
	return n
}

// end lets ticks go by at which the gateway accepts: then each payout is paid, or back, and what may be paid is.
func (r *run) end(t *testing.T) {
	t.Helper()
	if r.own.Engine().Room() < 500 {
		t.Fatal("no room for the end")
	}
	// Nothing that was chosen is left for the first of them.
	r.line(t, "choose")
	r.line(t, "fail 1000")
	for range 48 {
		if _, e := r.line(t, "tick"); e != api.OK {
			t.Fatal(e)
		}
		r.even(t, "tick")
	}
	told, _ := r.line(t, "payouts")
	for _, s := range told {
		if !strings.HasSuffix(s, " "+attempt.Paid) && !strings.HasSuffix(s, " "+attempt.Back) {
			t.Fatal(s)
		}
	}
	told, _ = r.line(t, "balances")
	for _, s := range told {
		words := strings.Fields(s)
		if words[0] == book.Flight {
			t.Fatal(told)
		}
		for _, x := range r.own.Engine().Balances() {
			if x.Kind == book.Available && x.Amount >= api.Threshold && !r.own.Engine().Held(x.Party) {
				t.Fatal(told)
			}
		}
	}
}
