package script

import (
	"fmt"
	"math"
	"slices"
	"strings"
	"testing"

	"souk/api"
	"souk/world"
)

// P23.1: New, World.

func TestNew(t *testing.T) {
	for _, text := range []string{tenth, reserved, " tier 0 1%;cap 5 ; ", "tier 0 0%;"} {
		for _, blocks := range []int{8, 50, 400, api.MaxBlocks} {
			p := begin(t, blocks, text)
			if p.own.Engine().Records() != 0 || p.own.Engine().Now() != 0 || len(p.own.Gate().Records()) != 0 {
				t.Fatal(look(p.own))
			}
			p.expect(t, "balances")
			p.expect(t, "payouts")
		}
	}
	if p := begin(t, 1, tenth); p.own.Engine().Room() != 0 {
		t.Fatal(p.own.Engine().Room())
	}
}

func TestNewOfErrors(t *testing.T) {
	for _, x := range []struct {
		blocks int
		text   string
		want   api.Errno
	}{
		{0, tenth, api.ErrFull},
		{1, reserved, api.ErrFull},
		{-1, tenth, api.ErrArg},
		{math.MinInt, tenth, api.ErrArg},
		{api.MaxBlocks + 1, tenth, api.ErrArg},
		{math.MaxInt, tenth, api.ErrArg},
		{400, tenth + strings.Repeat(" ", 20000), api.ErrArg},
		{400, "", api.ErrPlan},
		{400, "tier", api.ErrPlan},
		{400, "tier 0 10%", api.ErrPlan},
		{400, "bid 0 10%;", api.ErrPlan},
		{400, "tier 0 10%;;", api.ErrPlan},
		{400, "tier 0 1.555%;", api.ErrPlan},
		{400, strings.Repeat("cap 1;", 41), api.ErrPlan},
		{400, "cap 5;", api.ErrPlan},
		{400, "tier 1 1%;", api.ErrPlan},
		{400, "tier 0 1%; tier 0 2%;", api.ErrPlan},
		{400, "tier 0 101%;", api.ErrPlan},
		{0, "cap 5;", api.ErrPlan},
		{-1, "no plan", api.ErrPlan},
	} {
		d, e := New(x.blocks, x.text)
		if _, f := world.New(x.blocks, x.text); e != x.want || e != f || d != nil {
			t.Errorf("New(%d, %.40q): %v %d, not %d, of layer 21 %d", x.blocks, x.text, d, e, x.want, f)
		}
		checkNil(t, d)
	}
}

func TestDesksAreApart(t *testing.T) {
	p, q := begin(t, 60, tenth), begin(t, 60, tenth)
	if p.own == q.own {
		t.Fatal("one world")
	}
	p.lines(t, "choose 6", "late 0", "fail 0 64", "sale s1 EUR - 1000 ann:1")
	q.alike(t, "")
	p.lines(t, "choose 6", "fail 1")
	q.expect(t, "sale s1 EUR - 5000 bob:1", "sale 500 heard 0")
	p.alike(t, "")
}

// What is done in a desk's world itself is seen at the desk.
func TestWorldIsTheDesksOwn(t *testing.T) {
	d := opened(t, 100, tenth)
	w := d.World()
	shown, e := d.Line("balances")
	if e != api.OK || len(shown) != 0 {
		t.Fatal(shown, e)
	}
	w.Do(world.Step{C: api.Command{Kind: "sale", ID: "s1", Currency: "EUR", Amount: 1000, Shares: []api.Share{{Party: "ann", Weight: 1}}}, Late: -1})
	if shown, e = d.Line("balances"); e != api.OK || !slices.Equal(shown, []string{"available ann EUR 900", "clearing - EUR -1000", "fee - EUR 100"}) {
		t.Fatal(shown, e)
	}
	for range 9 {
		d.Lines("choose 2", "fail 3 64 64", "late 5", "tick")
	}
	if d.World() != w || w.Engine().Now() != 9 || d.World() == nil {
		t.Fatal(w.Engine().Now())
	}
}

// Nothing is chosen for a desk's first step, though its world has replies that are told late.
func TestAtFirstNothingIsChosen(t *testing.T) {
	d := opened(t, 100, tenth)
	sale := api.Command{Kind: "sale", ID: "s1", Currency: "EUR", Amount: 1000, Shares: []api.Share{{Party: "ann", Weight: 1}}}
	for _, c := range append([]api.Command{sale}, slices.Repeat([]api.Command{{Kind: "tick"}}, api.Cut)...) {
		d.World().Do(world.Step{C: c, Choices: []uint8{6}, Late: -1})
	}
	told, wrong := d.Lines("hold h1 no", "tick", "late 0", "tick")
	if d.World().Gate().Waiting() != 0 || !slices.Equal(wrong, make([]api.Errno, 4)) {
		t.Fatal(told, wrong)
	}
	if !slices.Equal(slices.Concat(told...), []string{"hold 1 heard 0", "tick 0 heard 0", "tick 0 heard 1"}) {
		t.Fatal(told)
	}
}

// checkNil holds a desk without a world against what a nil one must tell.
func checkNil(t *testing.T, d *Desk) {
	t.Helper()
	if d.World() != nil {
		t.Fatal("a world")
	}
	for _, s := range []string{"", " ", "what", "choose", "choose 1", "choose 256", "late 0", "late", "fail 1", "fail", "balances", "balances ", "payouts", "totals EUR", "totals", "tick", "sale s1 EUR - 1000 ann:1", "sale"} {
		if told, e := d.Line(s); len(told) != 0 || e != api.ErrArg {
			t.Fatalf("Line(%q): %q %d", s, told, e)
		}
	}
	for _, l := range [][]string{nil, {}, {"tick"}, {"what"}, {"choose 1", "", "balances", "tick"}} {
		told, wrong := d.Lines(l...)
		if len(told) != len(l) || len(wrong) != len(l) {
			t.Fatalf("Lines(%q): %q %d", l, told, wrong)
		}
		for i, e := range wrong {
			if len(told[i]) != 0 || e != api.ErrArg {
				t.Fatalf("Lines(%q): %q %d", l, told, wrong)
			}
		}
	}
}

func TestNil(t *testing.T) {
	checkNil(t, nil)
	// One that New didn't make has no world either.
	checkNil(t, &Desk{})
}

// P23.1: choose, late, fail.

// sold is a pair with so many payouts, of 90 and more each, that begin at the next tick.
func sold(t *testing.T, blocks int, parties ...string) *pair {
	t.Helper()
	p := begin(t, blocks, tenth)
	for i, l := range slices.Collect(slices.Chunk(parties, api.MaxShares)) {
		s := fmt.Sprintf("sale s%d EUR - %d", i, 200*len(l))
		for _, party := range l {
			s += " " + party + ":1"
		}
		p.expect(t, s, fmt.Sprintf("sale %d heard 0", 20*len(l)))
	}
	p.ticks(t, api.Cut-1)
	return p
}

// many is so many parties, by names.
func many(n int) []string {
	l := make([]string, n)
	for i := range l {
		l[i] = fmt.Sprintf("p%04d", i)
	}
	return l
}

var three = []string{"ann", "bob", "cy"}

func TestChoose(t *testing.T) {
	const paid, asked, back = "paid", "asked", "back"
	for _, x := range []struct {
		line  string
		heard int
		want  []string // what becomes of three payouts
	}{
		{"choose", 3, []string{paid, paid, paid}},
		{"choose 0", 0, []string{asked, asked, asked}},
		{"choose 1", 3, []string{paid, paid, paid}},
		{"choose 3", 3, []string{back, back, back}},
		{"choose 5", 6, []string{paid, paid, paid}},
		{"choose 0 1", 1, []string{asked, paid, asked}},
		{"choose 1 0", 2, []string{paid, asked, paid}},
		{"choose 0 3 1", 2, []string{asked, back, paid}},
		{"choose 5 3 2", 3, []string{paid, back, asked}},
		{"choose 3 3 3 1 1 1", 3, []string{back, back, back}},
		{"choose 6 7 4", 0, []string{asked, asked, asked}},
		{"choose 255 9 11", 2, []string{asked, paid, back}},
		{"choose 254 8 100", 0, []string{asked, asked, asked}},
		{"choose 99 249", 3, []string{back, paid, back}},
	} {
		p := sold(t, 200, three...)
		p.expect(t, x.line)
		p.expect(t, "tick", fmt.Sprintf("tick 3 heard %d", x.heard))
		p.expect(t, "payouts", "1/EUR/ann 180 "+x.want[0], "1/EUR/bob 180 "+x.want[1], "1/EUR/cy 180 "+x.want[2])
	}
}

// Each number stands for itself.
func TestChooseOfAllNumbers(t *testing.T) {
	all := "choose"
	for n := range 256 {
		one := fmt.Sprint("choose ", n)
		p := sold(t, 100, "ann")
		p.expect(t, one)
		p.ticks(t, 1)
		p.expect(t, "late 0")
		p.ticks(t, 3)
		all += fmt.Sprint(" ", n)
	}
	p := sold(t, 1500, many(300)...)
	p.expect(t, all)
	p.ticks(t, 3)
	p.expect(t, all+all[len("choose"):])
	p.ticks(t, 3)
}

// waits is a pair in which so many replies are told late, of payouts in their order.
func waits(t *testing.T, blocks int, parties ...string) *pair {
	t.Helper()
	p := sold(t, blocks, parties...)
	p.expect(t, "choose 6 7")
	p.expect(t, "tick", fmt.Sprintf("tick %d heard 0", len(parties)))
	return p
}

func TestLate(t *testing.T) {
	for n, want := range []string{"1/EUR/ann 180 paid", "1/EUR/bob 180 back", "1/EUR/cy 180 paid"} {
		p := waits(t, 200, three...)
		p.expect(t, fmt.Sprint("late ", n))
		p.expect(t, "hold h1 no", "hold 1 heard 1")
		payouts := []string{"1/EUR/ann 180 asked", "1/EUR/bob 180 asked", "1/EUR/cy 180 asked"}
		payouts[n] = want
		p.expect(t, "payouts", payouts...)
		// The others moved up by one.
		p.lines(t, "late 0", "tick", "late 1", "tick", "late 0", "tick", "late 0", "tick")
		p.expect(t, "payouts", "1/EUR/ann 180 paid", "1/EUR/bob 180 back", "1/EUR/cy 180 paid")
	}
	for _, n := range []int{3, 4, 255, 256, 999, 1000} {
		p := waits(t, 200, three...)
		p.expect(t, fmt.Sprint("late ", n))
		p.expect(t, "hold h1 no", "hold 1 heard 0")
	}
}

// The greatest numbers are those of replies, too.
func TestLateOfMany(t *testing.T) {
	parties := many(1003)
	p := waits(t, 6000, parties...)
	for _, n := range []int{1000, 1000, 999, 256, 255, 1000} {
		p.expect(t, fmt.Sprint("late ", n))
		want := 1
		if n >= p.own.Gate().Waiting() {
			want = 0
		}
		p.expect(t, fmt.Sprintf("hold h%d no", p.own.Engine().Records()), fmt.Sprintf("hold 1 heard %d", want))
	}
	if p.own.Gate().Waiting() != 1003-5 {
		t.Fatal(p.own.Gate().Waiting())
	}
}

// This sale is two writes and a sync; a write of which all bytes stand is one that was made (the last three of a block are 0, as of an empty one).
func TestFail(t *testing.T) {
	const sale = "sale s1 EUR - 1000 ann:1 bob:1"
	for _, x := range []struct {
		line   string
		stands bool
		sold   bool
	}{
		{"fail 0", false, false},
		{"fail 1", false, false},
		{"fail 2", false, false},
		{"fail 3", true, true},
		{"fail 4", true, true},
		{"fail 1000", true, true},
		{"fail 0 64", false, false},
		{"fail 1 64", false, false},
		{"fail 1 64 64", true, false},
		{"fail 1 64 60", false, false},
		{"fail 1 60 64", false, false},
		{"fail 2 64 64", true, false},
		{"fail 2 64 64 64", true, false},
		{"fail 2 64 0", false, false},
		{"fail 2 64", false, false},
		{"fail 2 0 64", false, false},
		{"fail 0 64 64", false, false},
		{"fail 3 0 0", true, true},
	} {
		p := begin(t, 10, tenth)
		p.expect(t, x.line)
		if x.sold {
			p.expect(t, sale, "sale 100 heard 0")
		} else {
			p.fails(t, sale, api.ErrCrash)
		}
		var want []string
		if x.stands {
			want = []string{"available ann EUR 450", "available bob EUR 450", "clearing - EUR -1000", "fee - EUR 100"}
		}
		p.expect(t, "balances", want...)
		p.expect(t, sale, "sale 100 heard 0")
	}
}

// How many bytes of a block stand, each number, is seen by what becomes of it.
func TestKeep(t *testing.T) {
	for keep := range 65 {
		p := begin(t, 10, tenth)
		p.expect(t, fmt.Sprint("fail 1 ", keep))
		p.fails(t, "tick", api.ErrCrash)
		if got, want := p.own.Engine().Now() == 1, keep >= 61; got != want {
			t.Fatal(keep, look(p.own))
		}
	}
	p := begin(t, 400, tenth)
	p.expect(t, "fail 9"+strings.Repeat(" 64 0 7", 5000))
	p.ticks(t, 1)
}

// The power fails at each number, in a step that does more than a thousand things.
func TestFailOfMany(t *testing.T) {
	for _, n := range []int{0, 1, 255, 256, 511, 998, 999, 1000} {
		p := sold(t, 2600, many(344)...)
		p.expect(t, fmt.Sprint("fail ", n))
		told, e := p.line(t, "tick")
		switch {
		case n < 2:
			if e != api.ErrCrash {
				t.Fatal(n, told, e)
			}
		// A tick is a write and a sync, as each reply's two blocks are two writes and a sync.
		case !slices.Equal(told, []string{fmt.Sprintf("tick 344 heard %d crashed", (n-2)/3)}):
			t.Fatal(n, told, e)
		}
		p.expect(t, "balances", balancesOf(p.w)...)
	}
}

// Lines that choose tell nothing, the last one of its kind counts, and they stand beside each other, in any order.
func TestChosenTogether(t *testing.T) {
	for _, l := range [][]string{
		{"choose 0 5", "late 1", "fail 6"},
		{"late 1", "fail 6", "choose 0 5"},
		{"fail 6", "choose 0 5", "late 1"},
		{"choose 1", "late 0", "fail 0", "late 1", "choose 0 5", "fail 6"},
		{"fail 6", "late 1000", "choose", "choose 0 5", "late 1", "fail 1 64 64", "fail 6"},
	} {
		p := waits(t, 300, three...)
		p.ticks(t, 1)
		for _, s := range l {
			p.expect(t, s)
		}
		// Each command is a write and a sync: the reply that is told late, the tick, and what is told of cy, of which the second one fails.
		p.expect(t, "tick", "tick 2 heard 2 crashed")
		p.expect(t, "payouts", "1/EUR/ann 180 queried", "1/EUR/bob 180 back", "1/EUR/cy 180 paid")
	}
	// Of a kind that is chosen again, nothing is left of what was chosen ahead.
	p := sold(t, 300, "ann")
	p.lines(t, "choose 0 3", "choose", "fail 0 64", "fail 1")
	p.fails(t, "hold h1 no", api.ErrCrash)
	p.lines(t, "choose 0 3", "choose", "fail 0 64", "fail 1000")
	p.expect(t, "tick", "tick 1 heard 1")
	p.expect(t, "payouts", "1/EUR/ann 180 paid")
}

// Behind each step nothing is chosen, whatever came of it.
func TestBehindAStepNothingIsChosen(t *testing.T) {
	for _, x := range []struct {
		chosen []string
		step   string
		e      api.Errno
	}{
		{[]string{"choose 0", "late 0", "fail 1000 64"}, "hold h1 no", api.OK},
		{[]string{"choose 0", "late 0"}, "refund r1 no 5", api.ErrNone},
		{[]string{"choose 0", "late 0", "fail 1000"}, "refund r1 s0 601", api.ErrMore},
		{[]string{"choose 0", "late 9", "fail 0"}, "hold h1 no", api.ErrCrash},
		{[]string{"choose 0", "fail 1 64 64"}, "hold h1 no", api.ErrCrash},
		{[]string{"choose 6 6", "late 1", "fail 2"}, "sale s0 EUR - 600 ann:1 bob:1 cy:1", api.OK}, // told again
		{[]string{"choose 6 6", "late 0", "fail 1"}, "hold h1 no", api.ErrCrash},
	} {
		p := waits(t, 300, three...)
		p.lines(t, "sale s9 USD - 200 dee:1", "late 0")
		p.ticks(t, api.Cut-1)
		p.lines(t, x.chosen...)
		if _, e := p.line(t, x.step); e != x.e {
			t.Fatal(x, e)
		}
		// The payouts of bob, whose first one was declined, and of dee.
		p.expect(t, "tick", "tick 2 heard 2")
	}
}

// What is no line, and what is only to be read, leaves what was chosen as it was; so does choosing leave what is chosen beside.
func TestTheNextStepStays(t *testing.T) {
	for _, s := range append(slices.Clone(wrongLines), "balances", "payouts", "totals EUR", "totals ", "totals \xff") {
		p := waits(t, 200, three...)
		p.ticks(t, 1)
		p.lines(t, "choose 1 0 3", "late 2", "fail 5 64")
		p.line(t, s)
		p.expect(t, "tick", "tick 2 heard 1 crashed")
		p.expect(t, "payouts", "1/EUR/ann 180 paid", "1/EUR/bob 180 queried", "1/EUR/cy 180 paid")
	}
}
