package script

import (
	"fmt"
	"math"
	"math/big"
	"regexp"
	"slices"
	"strconv"
	"strings"
	"testing"

	"souk/api"
	"souk/book"
	"souk/command"
	"souk/world"
)

// Two plans: by the second one each command has something to do.
const (
	tenth    = "tier 0 10%;"
	reserved = "tier 0 10%; tier 5000 5.5%; cap 2000; category books 2%; tax 20%; reserve 25% 4;"
)

// The numbers of lines, as they are written.
const (
	to64   = `(?:[0-9]|[1-5][0-9]|6[0-4])`
	to255  = `(?:[0-9]|[1-9][0-9]|1[0-9][0-9]|2[0-4][0-9]|25[0-5])`
	to1000 = `(?:[0-9]|[1-9][0-9]|[1-9][0-9][0-9]|1000)`
)

// The lines that aren't commands, as they are written.
var (
	chooseLine = regexp.MustCompile(`^choose(?: ` + to255 + `)*$`)
	lateLine   = regexp.MustCompile(`^late ` + to1000 + `$`)
	failLine   = regexp.MustCompile(`^fail ` + to1000 + `(?: ` + to64 + `)*$`)
	totalsLine = regexp.MustCompile(`^totals [^ ]*$`)
)

// pair is a desk, and a world beside it, in which the same steps are done by layer 21 itself.
type pair struct {
	d    *Desk
	own  *world.World // the desk's
	w    *world.World // the one beside it
	next world.Step
}

func begin(t *testing.T, blocks int, text string) *pair {
	t.Helper()
	w, e := world.New(blocks, text)
	if e != api.OK {
		t.Fatalf("world.New(%d, %q): %d", blocks, text, e)
	}
	d := opened(t, blocks, text)
	p := &pair{d: d, own: d.World(), w: w, next: world.Step{Late: -1}}
	p.alike(t, "")
	return p
}

func opened(t *testing.T, blocks int, text string) *Desk {
	t.Helper()
	d, e := New(blocks, text)
	if e != api.OK || d == nil || d.World() == nil {
		t.Fatalf("New(%d, %q): %v %d", blocks, text, d, e)
	}
	return d
}

// line is what the desk tells of one, held against the world beside it.
func (p *pair) line(t *testing.T, s string) ([]string, api.Errno) {
	t.Helper()
	own := strings.Clone(s)
	told, e := p.d.Line(s)
	want, f := p.model(s)
	if e != f || !slices.Equal(told, want) || own != s {
		t.Fatalf("Line(%.200q): %q %d, not %q %d", s, told, e, want, f)
	}
	p.alike(t, s)
	return told, e
}

// lines does some; the last one's is told.
func (p *pair) lines(t *testing.T, l ...string) ([]string, api.Errno) {
	t.Helper()
	var told []string
	var e api.Errno
	for _, s := range l {
		told, e = p.line(t, s)
	}
	return told, e
}

// expect does a line, which must tell that.
func (p *pair) expect(t *testing.T, s string, want ...string) {
	t.Helper()
	if told, e := p.line(t, s); e != api.OK || !slices.Equal(told, want) {
		t.Fatalf("Line(%.200q): %q %d, not %q", s, told, e, want)
	}
}

// fails does a line, which must have that error.
func (p *pair) fails(t *testing.T, s string, want api.Errno) {
	t.Helper()
	if told, e := p.line(t, s); e != want || len(told) != 0 {
		t.Fatalf("Line(%.200q): %q %d, not %d", s, told, e, want)
	}
}

// ticks are so many, at which the gateway accepts.
func (p *pair) ticks(t *testing.T, n int) {
	t.Helper()
	for range n {
		if told, e := p.line(t, "tick"); e != api.OK || len(told) != 1 {
			t.Fatalf("tick: %q %d", told, e)
		}
	}
}

// alike holds the two worlds against each other.
func (p *pair) alike(t *testing.T, s string) {
	t.Helper()
	if p.d.World() != p.own {
		t.Fatalf("behind %.200q: another world", s)
	}
	if got, want := look(p.own), look(p.w); got != want {
		t.Fatalf("behind %.200q: %s, not %s", s, got, want)
	}
}

// look is all that is to be seen of a world.
func look(w *world.World) string {
	m, g := w.Engine(), w.Gate()
	return fmt.Sprint(m.Now(), m.Records(), m.Room(), m.Balances(), m.Lots(), m.Payouts(), g.Records(), g.Waiting())
}

// model is what a line should tell: its form by patterns, what is told by fmt, and steps by layer 21.
func (p *pair) model(s string) ([]string, api.Errno) {
	words := strings.Split(s, " ")
	switch {
	case chooseLine.MatchString(s):
		p.next.Choices = numbersOf(words[1:])
		return nil, api.OK
	case lateLine.MatchString(s):
		p.next.Late, _ = strconv.Atoi(words[1])
		return nil, api.OK
	case failLine.MatchString(s):
		n, _ := strconv.Atoi(words[1])
		p.next.Fuse, p.next.Keep = uint16(n)+1, numbersOf(words[2:])
		return nil, api.OK
	case s == "balances":
		return balancesOf(p.w), api.OK
	case s == "payouts":
		return payoutsOf(p.w), api.OK
	case totalsLine.MatchString(s):
		return totalsOf(p.w, s[len("totals "):])
	}
	c, e := command.Parse(s)
	if e != api.OK {
		return nil, api.ErrForm
	}
	return p.step(c)
}

// step is what the next one should tell.
func (p *pair) step(c api.Command) ([]string, api.Errno) {
	x := p.next
	p.next = world.Step{Late: -1}
	x.C = c
	r := p.w.Do(x)
	switch {
	case r.E != api.OK:
		return nil, r.E
	case r.Crashed:
		return []string{fmt.Sprintf("%s %d heard %d crashed", r.R.Kind, r.R.N, r.Heard)}, api.OK
	}
	return []string{fmt.Sprintf("%s %d heard %d", r.R.Kind, r.R.N, r.Heard)}, api.OK
}

func numbersOf(words []string) []uint8 {
	var l []uint8
	for _, w := range words {
		n, _ := strconv.ParseUint(w, 10, 8)
		l = append(l, uint8(n))
	}
	return l
}

func balancesOf(w *world.World) []string {
	var l []string
	for _, x := range w.Engine().Balances() {
		if x.Party == "" {
			x.Party = "-"
		}
		l = append(l, fmt.Sprintf("%s %s %s %d", x.Kind, x.Party, x.Currency, x.Amount))
	}
	return l
}

func payoutsOf(w *world.World) []string {
	var l []string
	for _, x := range w.Engine().Payouts() {
		l = append(l, fmt.Sprintf("%s %d %s", x.Key, x.Amount, x.State))
	}
	return l
}

// totalsOf is what should be told of a currency's totals, by numbers of any size. A book's balances of one kind have one sign, so that if any sum is no amount, the last one is none.
func totalsOf(w *world.World, currency string) ([]string, api.Errno) {
	sums := map[string]*big.Int{}
	for _, kind := range []string{book.Clearing, book.Fee, book.Tax, book.Available, book.Reserve, book.Flight, book.Paid, book.Debt} {
		sums[kind] = new(big.Int)
	}
	for _, x := range w.Engine().Balances() {
		if x.Currency == currency {
			sums[x.Kind].Add(sums[x.Kind], big.NewInt(max(x.Amount, -x.Amount)))
			if x.Amount == math.MinInt64 {
				return nil, api.ErrOver
			}
		}
	}
	all := new(big.Int)
	for kind, sum := range sums {
		if !sum.IsInt64() {
			return nil, api.ErrOver
		}
		if kind != book.Clearing && kind != book.Debt {
			all.Add(all, sum)
		}
	}
	parity := "odd"
	if rest := new(big.Int).Sub(all, sums[book.Debt]); all.IsInt64() && rest.Cmp(sums[book.Clearing]) == 0 {
		parity = "even"
	}
	net, fee := sums[book.Clearing].Int64(), sums[book.Fee].Int64()
	return []string{fmt.Sprintf("net %d fee %d tax %d paid %d take %s %s", net, fee, sums[book.Tax], sums[book.Paid], takeOf(fee, net), parity)}, api.OK
}

// takeOf is the market's part, which a world can't bring above the whole, or below nothing.
func takeOf(fee, net int64) string {
	if net == 0 && fee == 0 {
		return "-"
	}
	n := int64(math.RoundToEven(float64(fee) / float64(net) * 10000))
	if fee < 0 || fee > net {
		return "?"
	}
	return fmt.Sprintf("%d.%02d%%", n/100, n%100)
}
