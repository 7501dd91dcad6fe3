package world

import (
	"fmt"
	"math"
	"slices"
	"strings"
	"testing"

	"souk/api"
	"souk/attempt"
	"souk/block"
	"souk/book"
	"souk/command"
	"souk/gate"
	"souk/journal"
	"souk/state"
)

// P21.1: New.

func TestNew(t *testing.T) {
	most := tenth + strings.Repeat("\n", 255*block.Data-len(tenth))
	for _, text := range []string{tenth, reserved, " tier 0 1%;cap 5 ; ", most} {
		need := len(laid(text))
		for _, blocks := range []int{need, need + 1, need + 50, api.MaxBlocks} {
			p := begin(t, blocks, text)
			if p.w.Engine().Records() != 0 || p.w.Engine().Room() != blocks-need || p.w.Engine().Now() != 0 {
				t.Fatal(p.w.Engine().Records(), p.w.Engine().Room())
			}
			if len(p.w.Gate().Records()) != 0 || p.w.Gate().Waiting() != 0 {
				t.Fatal("the gateway has something")
			}
			p.unfused(t)
		}
	}
}

func TestNewOfTooFewBlocks(t *testing.T) {
	long := tenth + strings.Repeat(" ", 255*block.Data)
	for _, x := range []struct {
		blocks int
		text   string
		want   api.Errno
	}{
		{0, tenth, api.ErrFull},
		{0, reserved, api.ErrFull},
		{len(laid(reserved)) - 1, reserved, api.ErrFull},
		{254, long[:255*block.Data], api.ErrFull},
		{255, long, api.ErrArg},
		{api.MaxBlocks, long, api.ErrArg},
		{-1, tenth, api.ErrArg},
		{-1, reserved, api.ErrArg},
		{math.MinInt, tenth, api.ErrArg},
		{api.MaxBlocks + 1, tenth, api.ErrArg},
		{math.MaxInt, tenth, api.ErrArg},
	} {
		notMade(t, x.blocks, x.text, x.want)
	}
}

func notMade(t *testing.T, blocks int, text string, want api.Errno) {
	t.Helper()
	w, e := New(blocks, text)
	if e != want || w != nil {
		t.Fatalf("New(%d, %.40q): %v %d, not %d", blocks, text, w, e, want)
	}
	checkNil(t, w)
}

// What is wrong with the text is told ahead of what is wrong with the blocks.
func TestNewOfWrongTexts(t *testing.T) {
	for _, text := range []string{
		"", " ", ";", "tier", "tier 0 10%", "tier 0 10%;;", "bid 0 10%;", "tier 0 10%;\x00", "\xff", "tier 0 1.555%;", "cap 10000000000000000;", strings.Repeat("cap 1;", 41),
		"cap 5;", "tier 1 1%;", "tier 0 1%; tier 0 2%;", "tier 0 101%;", "tier 0 1%; cap 5; cap 6;", "tier 0 1%; minimum 6; cap 5;",
		"tier 0 10%" + strings.Repeat(" ", 255*block.Data),
	} {
		for _, blocks := range []int{math.MinInt, -1, 0, 1, 2, 400, api.MaxBlocks, api.MaxBlocks + 1} {
			notMade(t, blocks, text, api.ErrPlan)
		}
	}
}

func TestWorldsAreApart(t *testing.T) {
	p, q := begin(t, 60, tenth), begin(t, 60, tenth)
	p.all(t, "sale s1 EUR - 1000 ann:1")
	p.ticks(t, 8, gate.AcceptLate)
	q.check(t)
	q.all(t, "sale s1 EUR - 5000 bob:1")
	p.check(t)
	if p.w.Gate() == q.w.Gate() || p.w.Engine() == q.w.Engine() {
		t.Fatal("one world")
	}
}

// P21.1: Do of each Kind.

func TestDoOfEachKind(t *testing.T) {
	p := begin(t, 90, tenth)
	for _, x := range []struct {
		text    string
		choices []uint8
		n       int64
		heard   int
	}{
		{"sale s1 EUR - 1000 ann:1", nil, 100, 0},
		{"sale s2 EUR - 2000 ann:1 bob:1", nil, 200, 0},
		{"refund r1 s1 100", nil, 90, 0},
		{"chargeback c1 s2 1000", nil, 900, 0},
		{"reverse v1 c1", nil, 1000, 0},
		{"hold h1 cy", nil, 1, 0},
		{"hold h2 ann", nil, 2, 0},
		{"free f1 ann", nil, 1, 0},
		{"tick", nil, 0, 0}, {"tick", nil, 0, 0}, {"tick", nil, 0, 0}, {"tick", nil, 0, 0}, {"tick", nil, 0, 0}, {"tick", nil, 0, 0}, {"tick", nil, 0, 0},
		{"tick", []uint8{gate.AcceptTwice, gate.Lost}, 2, 2},
		{"reply 1/EUR/ann accepted 1", nil, 0, 0},
		{"tick", nil, 0, 0},
		{"tick", []uint8{gate.Decline, gate.Lost}, 1, 1}, // the query of bob's: unknown
		{"tick", []uint8{gate.DeclineLost}, 1, 0},        // his is asked to pay again
		{"tick", nil, 0, 0},
		{"reply 1/EUR/bob declined 3", nil, 1, 0},
	} {
		c := parsed(x.text)
		p.expect(t, step(x.text, x.choices...), did(c.Kind, x.n, x.heard))
	}
	if p.balance(book.Paid, "ann") != 1710 || p.balance(book.Available, "bob") != 900 || p.w.Engine().Records() != 22+3 {
		t.Fatal(look(p.w.Engine()))
	}
	want := []gate.Record{{Key: "1/EUR/ann", Party: "ann", Currency: "EUR", Amount: 1710, Moved: true}, {Key: "1/EUR/bob", Party: "bob", Currency: "EUR", Amount: 900}}
	if !slices.Equal(p.w.Gate().Records(), want) {
		t.Fatal(p.w.Gate().Records())
	}
}

// What is wrong with a command is told, and nothing is done; what is late is heard all the same.
func TestDoOfErrors(t *testing.T) {
	p := begin(t, 200, tenth)
	p.all(t, "sale s1 EUR - 1000 ann:3 bob:1", "chargeback c1 s1 100", "reverse v1 c1", "sale s2 EUR - 5000 cy:1 a/b:1")
	p.ticks(t, 8, gate.AcceptLate, gate.DeclineLate, gate.AcceptLate, gate.DeclineLate)
	twice := api.Command{Kind: "sale", ID: "x", Currency: "EUR", Amount: 10, Shares: []api.Share{{Party: "ann", Weight: 1}, {Party: "ann", Weight: 2}}}
	for i, x := range []struct {
		c    api.Command
		want api.Errno
	}{
		{api.Command{}, api.ErrArg},
		{api.Command{Kind: "payout", ID: "x"}, api.ErrArg},
		{api.Command{Kind: "tick", ID: "x"}, api.ErrArg},
		{api.Command{Kind: "refund", ID: "x", About: "s1", Amount: math.MinInt64}, api.ErrArg},
		{api.Command{Kind: "reply", About: "1/EUR/ann", Category: "accepted", Amount: -1}, api.ErrArg},
		{twice, api.ErrTwice},
		{parsed("refund x s9 1"), api.ErrNone},
		{parsed("chargeback x c1 1"), api.ErrNone},
		{parsed("reverse x s1"), api.ErrNone},
		{parsed("reply 9/EUR/ann accepted 1"), api.ErrNone},
		{parsed("refund x s1 1001"), api.ErrMore},
		{parsed("chargeback x s2 5001"), api.ErrMore},
		{parsed("reverse x c1"), api.ErrState},
	} {
		for _, fuse := range []uint16{0, 1, 9} {
			if fuse == 0 || i > 3 {
				p.expect(t, Step{C: x.c, Late: -1, Fuse: fuse, Choices: []uint8{gate.Decline}}, Report{E: x.want})
			}
		}
		heard := min(1, p.w.Gate().Waiting())
		p.expect(t, Step{C: x.c, Late: 0}, Report{E: x.want, Heard: heard})
	}
	if p.w.Gate().Waiting() > 0 || p.balance(book.Paid, "bob") != 225 || p.balance(book.Available, "ann") != 675 {
		t.Fatal(look(p.w.Engine()))
	}
	// The ID of what had an error isn't taken.
	p.expect(t, step("hold x ann"), did("hold", 1, 0))
}

// A sale that brings a balance beyond 64 bits is the 8192nd of 2^50.
func TestDoOfTooMuch(t *testing.T) {
	w := made(t, 20000, "tier 0 0%;")
	x := Step{C: api.Command{Kind: "sale", Currency: "EUR", Amount: api.MaxAmount, Shares: []api.Share{{Party: "ann", Weight: 1}}}, Late: -1}
	for n := range 8191 {
		x.C.ID = fmt.Sprint(n)
		if r := w.Do(x); r != did("sale", 0, 0) {
			t.Fatal(n, r)
		}
	}
	x.C.ID = "x"
	was, records := look(w.Engine()), w.Engine().Records()
	for _, fuse := range []uint16{0, 1} {
		x.Fuse = fuse
		if r := w.Do(x); r != (Report{E: api.ErrOver}) || look(w.Engine()) != was || w.Engine().Records() != records {
			t.Fatal(r)
		}
	}
	// It isn't held against what is asked of the gateway, and heard.
	for range 8 {
		w.Do(step("tick"))
	}
	if want := int64(8191) * api.MaxAmount; w.Engine().Balance(book.Paid, "ann", "EUR") != want || w.Gate().Records()[0].Amount != want {
		t.Fatal(w.Gate().Records())
	}
}

// What was told is told again, whatever is asked under its ID; nothing is done, so that no fuse burns down.
func TestDoOfWhatWasTold(t *testing.T) {
	p := begin(t, 90, tenth)
	p.all(t, "sale s1 EUR - 1000 ann:3 bob:1", "refund r1 s1 100", "chargeback c1 s1 300", "reverse v1 c1", "hold h1 ann", "free f1 ann")
	for id, want := range map[string]state.Reply{"s1": {Kind: "sale", N: 100}, "r1": {Kind: "refund", N: 90}, "c1": {Kind: "chargeback", N: 270}, "v1": {Kind: "reverse", N: 300}, "h1": {Kind: "hold", N: 1}, "f1": {Kind: "free", N: 0}} {
		for _, text := range []string{"sale # EUR - 1000 ann:3 bob:1", "refund # s1 100", "refund # s9 1", "chargeback # s1 99999", "reverse # c1", "hold # ann", "free # cy"} {
			x := step(strings.Replace(text, "#", id, 1))
			p.expect(t, x, Report{R: want})
			p.expect(t, failing(x, 1), Report{R: want})
		}
	}
	// Once the power failed of a late reply nothing is told.
	p.ticks(t, 8, gate.AcceptLate)
	p.expect(t, failing(late("sale s1 EUR - 1000 ann:3 bob:1", 0), 1), Report{E: api.ErrCrash, Crashed: true})
	p.expect(t, step("refund s1 r1 5"), did("sale", 100, 0))
}

// A reply that a step tells of its own is a command: what it is told is told, but it is none that was heard.
func TestDoOfReplies(t *testing.T) {
	p := begin(t, 90, tenth)
	p.all(t, "sale s1 EUR - 1000 ann:1", "sale s2 EUR - 4000 bob:1")
	p.expect(t, step("reply 1/EUR/ann accepted 1"), Report{E: api.ErrNone})
	p.ticks(t, 8, gate.Lost, gate.DeclineLate)
	p.expect(t, step("reply 1/EUR/ann busy 1"), did("reply", 0, 0))
	p.expect(t, step("reply 1/EUR/ann accepted 7"), did("reply", 1, 0))
	p.expect(t, step("reply 1/EUR/ann declined 1"), did("reply", 0, 0))
	p.expect(t, late("reply 1/EUR/bob accepted 1", 0), did("reply", 0, 1))
	if p.balance(book.Paid, "ann") != 900 || p.balance(book.Available, "bob") != 3600 {
		t.Fatal(look(p.w.Engine()))
	}
}

// P21.1: the choices.

// five is a world whose next tick asks to pay five parties.
func five(t *testing.T) *pair {
	t.Helper()
	p := begin(t, 120, "tier 0 0%;")
	p.all(t, "sale s1 EUR - 3000 ann:3 bob:4 cy:5 p1234567890123456789:6 a/b:2")
	p.ticks(t, 7)
	return p
}

// What the gateway does by a choice: whether it has a record then, and moves money; how many replies it tells at once, and late.
func chosen(choice uint8) (known, moved bool, now, waiting int) {
	switch choice % 8 {
	case gate.Accept:
		return true, true, 1, 0
	case gate.AcceptLost:
		return true, true, 0, 0
	case gate.Decline:
		return true, false, 1, 0
	case gate.DeclineLost:
		return true, false, 0, 0
	case gate.AcceptTwice:
		return true, true, 2, 0
	case gate.AcceptLate:
		return true, true, 0, 1
	case gate.DeclineLate:
		return true, false, 0, 1
	}
	return false, false, 0, 0
}

// checkChoices does a tick that asks to pay five parties, and holds all that comes of it against the choices.
func checkChoices(t *testing.T, choices []uint8) {
	t.Helper()
	p := five(t)
	var records []gate.Record
	var replies []gate.Reply
	var states []string
	heard := 0
	for i, party := range []string{"a/b", "ann", "bob", "cy", "p1234567890123456789"} {
		choice := uint8(gate.Accept)
		if len(choices) > 0 {
			choice = choices[i%len(choices)]
		}
		known, moved, now, waiting := chosen(choice)
		x := gate.Record{Key: "1/EUR/" + party, Party: party, Currency: "EUR", Amount: p.balance(book.Available, party), Moved: moved}
		reply, state := gate.Declined, attempt.Back
		if moved {
			reply, state = gate.Accepted, attempt.Paid
		}
		if known {
			records = append(records, x)
		}
		if waiting > 0 {
			replies = append(replies, gate.Reply{Key: x.Key, Kind: reply, Attempt: 1})
		}
		if now == 0 {
			state = attempt.Asked
		}
		states = append(states, state)
		heard += now
	}
	p.expect(t, step("tick", choices...), did("tick", 5, heard))
	if !slices.Equal(p.w.Gate().Records(), records) {
		t.Fatalf("%v: %v, not %v", choices, p.w.Gate().Records(), records)
	}
	if l := p.waiting(t); !slices.Equal(l, replies) {
		t.Fatalf("%v: %v is told late, not %v", choices, l, replies)
	}
	for i, x := range p.w.Engine().Payouts() {
		if x.State != states[i] {
			t.Fatalf("%v: %v, not %s", choices, x, states[i])
		}
	}
}

func TestChoices(t *testing.T) {
	checkChoices(t, nil)
	checkChoices(t, []uint8{})
	for choice := range 256 {
		checkChoices(t, []uint8{uint8(choice)})
	}
	row := []uint8{gate.Decline, gate.AcceptTwice, gate.AcceptLate, gate.Lost, gate.DeclineLate, gate.Accept, gate.DeclineLost, gate.AcceptLost, 255, 8, 9, 123}
	for from := range row {
		turned := append(slices.Clone(row[from:]), row[:from]...)
		for n := range turned {
			checkChoices(t, turned[:n+1])
		}
	}
}

// Choices are those of a step, counted anew in each, also where nothing is asked.
func TestChoicesAreTheSteps(t *testing.T) {
	p := five(t)
	p.expect(t, step("hold h1 x", gate.Decline), did("hold", 1, 0))
	p.expect(t, step("tick", gate.Lost, gate.Lost, gate.AcceptLost), did("tick", 5, 0))
	p.ticks(t, 1, gate.Decline)
	// Five queries: of one the gateway knows, of the others nothing.
	p.expect(t, step("tick", gate.AcceptLost, gate.AcceptLate, gate.Accept), did("tick", 5, 1))
	if l := p.waiting(t); !slices.Equal(l, []gate.Reply{{Key: "1/EUR/ann", Kind: gate.Unknown, Attempt: 2}, {Key: "1/EUR/p1234567890123456789", Kind: gate.Unknown, Attempt: 2}}) {
		t.Fatal(l)
	}
	if p.balance(book.Paid, "bob") != 600 {
		t.Fatal(look(p.w.Engine()))
	}
}

// P21.1: what is heard.

// The command of a reply is About its Key, Category its Kind, Amount its Attempt; the same one is done at once and late.
func TestHeardCommands(t *testing.T) {
	p := begin(t, 120, tenth)
	p.all(t, "sale s1 EUR - 1000 ann:1", "sale s2 EUR - 4000 bob:1")
	p.ticks(t, 8, gate.Lost, gate.DeclineLost) // asked, 1
	p.ticks(t, 2, gate.AcceptLate)             // queried, 2
	p.expect(t, late("hold h1 cy", 1), did("hold", 1, 1))
	p.ticks(t, 3, gate.Accept)
	p.ticks(t, 2, gate.AcceptTwice)
	var heard []api.Command
	for _, record := range standing(t, p.w) {
		if record.Kind == "reply" {
			heard = append(heard, record)
		}
	}
	want := []api.Command{
		{Kind: "reply", About: "1/EUR/bob", Category: gate.Declined, Amount: 2},
		{Kind: "reply", About: "1/EUR/ann", Category: gate.Unknown, Amount: 3},
		{Kind: "reply", About: "1/EUR/ann", Category: gate.Accepted, Amount: 4},
		{Kind: "reply", About: "1/EUR/ann", Category: gate.Accepted, Amount: 4},
	}
	if !slices.EqualFunc(heard, want, equal) {
		t.Fatal(heard)
	}
}

func equal(a, b api.Command) bool { return fmt.Sprint(a) == fmt.Sprint(b) }

// standing is the commands that stand on a world's disk.
func standing(t *testing.T, w *World) []api.Command {
	t.Helper()
	records, _ := journal.Records(w.disk.All()...)
	var l []api.Command
	for _, record := range records[1:] {
		c, e := command.Decode(record)
		if e != api.OK {
			t.Fatalf("%q is no command", record)
		}
		l = append(l, c)
	}
	return l
}

// A reply of which the engine's command has an error isn't one that was heard; what is told late is so no more.
func TestNotHeard(t *testing.T) {
	p := begin(t, 90, tenth)
	p.all(t, "sale s1 EUR - 1000 ann:1")
	for i, x := range []api.Request{
		{Kind: "query", Key: "9/EUR/ann", Attempt: 1},                             // there is no such payout
		{Kind: "query", Key: "no name", Attempt: 1},                               // no command may be about it
		{Kind: "query", Key: "1/EUR/ann", Attempt: -1},                            // nor of such an attempt
		{Kind: "query", Key: "1/EUR/ann", Attempt: api.MaxAmount + 1},             // nor of that one
		{Kind: "query", Key: strings.Repeat("k", 61), Attempt: 1},                 // nor of so long a key
		{Kind: "query", Key: "", Attempt: 1},                                      // nor of none
		{Kind: "query", Key: "1/EUR/ann", Attempt: 1},                             // there is none as yet
		{Kind: "pay", Key: "9/EUR/bob", Party: "bob", Currency: "EUR", Amount: 1}, // nor that one, though it was accepted
	} {
		for _, g := range []*gate.Gate{p.w.gate, p.m.gate} {
			g.Ask(x, gate.AcceptLate)
		}
		for range 2 {
			p.expect(t, late("refund r1 s9 5", 0), Report{E: api.ErrNone})
		}
		for _, g := range []*gate.Gate{p.w.gate, p.m.gate} {
			g.Ask(x, gate.AcceptLate)
		}
		p.expect(t, late(fmt.Sprint("free f", i, " cy"), 0), did("free", 0, 0))
		if p.w.Gate().Waiting() != 0 || p.w.Engine().Records() != i+2 {
			t.Fatal(x, p.w.Gate().Waiting(), p.w.Engine().Records())
		}
	}
}

// P21.1: Late.

// lates is a world in which four replies are told late: of a/b it is accepted, of ann declined, of bob unknown, of cy declined.
func lates(t *testing.T) *pair {
	t.Helper()
	p := begin(t, 200, "tier 0 0%;")
	p.all(t, "sale s1 EUR - 2000 a/b:4 ann:5 bob:6 cy:5")
	p.ticks(t, 8, gate.AcceptLate, gate.DeclineLate, gate.Lost, gate.DeclineLost)
	p.ticks(t, 2, gate.Lost, gate.Lost, gate.AcceptLate, gate.AcceptLate)
	if p.w.Gate().Waiting() != 4 {
		t.Fatal(p.w.Gate().Waiting())
	}
	return p
}

func TestLate(t *testing.T) {
	late4 := []gate.Reply{{Key: "1/EUR/a/b", Kind: gate.Accepted, Attempt: 1}, {Key: "1/EUR/ann", Kind: gate.Declined, Attempt: 1}, {Key: "1/EUR/bob", Kind: gate.Unknown, Attempt: 2}, {Key: "1/EUR/cy", Kind: gate.Declined, Attempt: 2}}
	for n := range 4 {
		p := lates(t)
		p.expect(t, late("hold h1 x", n), did("hold", 1, 1))
		state := []string{attempt.Paid, attempt.Back, attempt.Ready, attempt.Back}
		for i, x := range p.w.Engine().Payouts() {
			if i != n {
				state[i] = attempt.Queried
			}
			if x.State != state[i] {
				t.Fatal(n, x)
			}
		}
		if l := p.waiting(t); !slices.Equal(l, slices.Delete(slices.Clone(late4), n, n+1)) {
			t.Fatal(n, l)
		}
	}
	for _, n := range []int{-1, -2, math.MinInt, 4, 5, 1000, math.MaxInt} {
		p := lates(t)
		p.expect(t, late("hold h1 x", n), did("hold", 1, 0))
		if l := p.waiting(t); !slices.Equal(l, late4) {
			t.Fatal(n, l)
		}
	}
	// One by one, from any of them on, till there is none.
	for row := range 4 * 3 * 2 {
		p := lates(t)
		for left := 4; left > 0; left-- {
			p.expect(t, late("hold h1 x", row%left), did("hold", 1, 1))
			row /= left
		}
		p.expect(t, late("hold h1 x", 0), did("hold", 1, 0))
	}
}

// The first one is told late by a step that names no number: it is 0.
func TestLateOfNoNumber(t *testing.T) {
	p := lates(t)
	p.expect(t, Step{C: parsed("tick")}, did("tick", 0, 1))
	if p.balance(book.Paid, "a/b") != 400 || p.w.Gate().Waiting() != 3 {
		t.Fatal(look(p.w.Engine()))
	}
}

// What is told late is heard ahead of the command.
func TestLateIsAheadOfTheCommand(t *testing.T) {
	// Without it the tick asks of both once more.
	for n, asked := range map[int]int64{-1: 2, 0: 1, 1: 1} {
		p := begin(t, 90, tenth)
		p.all(t, "sale s1 EUR - 1000 ann:1 bob:1")
		p.ticks(t, 8, gate.AcceptLate, gate.DeclineLate)
		p.ticks(t, 1)
		p.expect(t, late("tick", n, gate.Lost), did("tick", asked, min(n+1, 1)))
	}
	// What it brings back is there to be taken.
	for n, debt := range map[int]int64{-1: -900, 0: 0} {
		p := begin(t, 90, tenth)
		p.all(t, "sale s1 EUR - 1000 ann:1")
		p.ticks(t, 8, gate.DeclineLate)
		p.expect(t, late("refund r1 s1 1000", n), did("refund", 900, n+1))
		if p.balance(book.Debt, "ann") != debt {
			t.Fatal(look(p.w.Engine()))
		}
	}
	// It is paid out again at the cut-off that is the command.
	p := begin(t, 90, tenth)
	p.all(t, "sale s1 EUR - 1000 ann:1")
	p.ticks(t, 8, gate.DeclineLate)
	p.ticks(t, 7, gate.Lost)
	p.expect(t, late("tick", 0), did("tick", 1, 2))
	if p.balance(book.Paid, "ann") != 900 || len(p.w.Engine().Payouts()) != 2 {
		t.Fatal(look(p.w.Engine()))
	}
	// A reply of the step's own finds it over; so does what the gateway tells of the same payout later.
	p = lates(t)
	p.expect(t, late("reply 1/EUR/a/b declined 1", 0), did("reply", 0, 1))
	p.expect(t, late("reply 1/EUR/ann accepted 1", 0), did("reply", 0, 1))
}

// What a step's requests are told late waits till a later step: its own was told ahead.
func TestLateOfTheSameStep(t *testing.T) {
	p := begin(t, 90, tenth)
	p.all(t, "sale s1 EUR - 1000 ann:1")
	p.ticks(t, 7)
	p.expect(t, late("tick", 0, gate.AcceptLate), did("tick", 1, 0))
	if p.w.Gate().Waiting() != 1 || p.balance(book.Flight, "ann") != 900 {
		t.Fatal(look(p.w.Engine()))
	}
	p.expect(t, late("tick", 0), did("tick", 0, 1))
}

// P21.1: a full disk.

// Room for so many blocks at the tick that asks to pay three parties, each of whose replies has one.
func TestDoOnAFullDisk(t *testing.T) {
	for room := range 9 {
		p := begin(t, 10+room, "tier 0 0%;")
		p.all(t, "sale s1 EUR - 900 a:1 b:1 c:1")
		p.ticks(t, 7)
		if p.w.Engine().Room() != room {
			t.Fatal(p.w.Engine().Room())
		}
		if room == 0 {
			p.expect(t, step("tick", gate.AcceptTwice), Report{E: api.ErrFull})
			p.expect(t, failing(step("tick"), 1), Report{E: api.ErrFull})
			p.expect(t, step("hold h1 ann"), Report{E: api.ErrFull})
			p.expect(t, step("refund r1 s9 1"), Report{E: api.ErrNone})
			p.expect(t, step("refund s1 s9 1"), did("sale", 0, 0))
			continue
		}
		p.expect(t, step("tick", gate.AcceptTwice), did("tick", 3, min(room-1, 6)))
		if l := p.w.Gate().Records(); len(l) != 3 || !l[0].Moved || !l[1].Moved || !l[2].Moved {
			t.Fatal(l)
		}
		if paid := p.balance(book.Paid, "a") + p.balance(book.Paid, "b") + p.balance(book.Paid, "c"); paid != 300*int64(min(room/2, 3)) {
			t.Fatal(room, paid)
		}
		for range 4 {
			p.do(t, step("tick", gate.AcceptTwice))
		}
	}
}

// What is told late is lost, if there is no room for it.
func TestLateOnAFullDisk(t *testing.T) {
	p := begin(t, 12, tenth)
	p.all(t, "sale s1 EUR - 1000 ann:1")
	p.ticks(t, 8, gate.AcceptLate)
	p.expect(t, late("tick", -1, gate.AcceptLate), did("tick", 0, 0))
	p.expect(t, late("tick", -1, gate.AcceptLate), did("tick", 1, 0))
	if p.w.Engine().Room() != 0 || p.w.Gate().Waiting() != 2 {
		t.Fatal(p.w.Engine().Room(), p.w.Gate().Waiting())
	}
	p.expect(t, late("tick", 1), Report{E: api.ErrFull})
	p.expect(t, failing(late("hold h1 ann", 0), 1), Report{E: api.ErrFull})
	p.expect(t, late("hold h1 ann", 0), Report{E: api.ErrFull})
	if p.w.Gate().Waiting() != 0 || p.balance(book.Flight, "ann") != 900 {
		t.Fatal(p.w.Gate().Waiting())
	}
}

// P21.1: Engine and Gate; nothing else is shared.

func TestEngineAndGateAreTheThings(t *testing.T) {
	p := begin(t, 90, tenth)
	m, g := p.w.Engine(), p.w.Gate()
	p.all(t, "sale s1 EUR - 1000 ann:1", "tick")
	p.do(t, step("refund r1 s9 1"))
	if p.w.Engine() != m || m.Now() != 1 || p.w.Gate() != g {
		t.Fatal("another engine, or another gateway")
	}
	p.expect(t, failing(step("tick"), 1), Report{E: api.ErrCrash, Crashed: true})
	if p.w.Engine() == m || p.w.Engine() == nil || p.w.Gate() != g {
		t.Fatal("the engine isn't opened of the disk, or the gateway is another one")
	}
	m = p.w.Engine()
	p.ticks(t, 7)
	if p.w.Engine() != m || m.Now() != 8 || len(g.Records()) != 1 {
		t.Fatal("another engine, or another gateway")
	}
}

// What Do is given stays as it is, and isn't kept; what lies behind a list's length counts for nothing.
func TestNothingIsShared(t *testing.T) {
	choices := []uint8{gate.Lost, gate.AcceptLate, gate.Accept, gate.Decline, gate.Decline}
	keep := []uint8{64, 40, 64, 64, 64}
	shares := []api.Share{{Party: "ann", Weight: 3}, {Party: "bob", Weight: 1}, {Party: "cy", Weight: 1}, {Party: "", Weight: -1}}
	same := func(where string) {
		t.Helper()
		if !slices.Equal(choices, []uint8{0, 6, 1, 3, 3}) || !slices.Equal(keep, []uint8{64, 40, 64, 64, 64}) || !slices.Equal(shares, []api.Share{{Party: "ann", Weight: 3}, {Party: "bob", Weight: 1}, {Party: "cy", Weight: 1}, {Party: "", Weight: -1}}) {
			t.Fatal(where, choices, keep, shares)
		}
	}
	p := begin(t, 90, tenth)
	sale := Step{C: api.Command{Kind: "sale", ID: "s1", Currency: "EUR", Amount: 1000, Shares: shares[:3]}, Choices: choices[:2], Keep: keep[:2], Late: -1}
	p.expect(t, sale, did("sale", 100, 0))
	same("sale")
	sale.C.ID, sale.Fuse = "s2", 3
	p.expect(t, sale, Report{E: api.ErrCrash, Crashed: true})
	same("failed")
	p.ticks(t, 7)
	p.expect(t, Step{C: parsed("tick"), Choices: choices[:2], Keep: keep[:1], Fuse: 3, Late: -1}, did("tick", 3, 0))
	same("tick")
	p.ticks(t, 1)
	p.expect(t, Step{C: parsed("tick"), Choices: choices[1:3], Keep: keep[:1], Fuse: 3}, Report{R: state.Reply{}, E: api.ErrCrash, Heard: 1, Crashed: true})
	same("tick that failed")
	for i := range choices {
		choices[i], keep[i] = 3, 1
	}
	clear(shares)
	p.check(t)
	p.all(t, "refund r1 s1 1000")
	p.ticks(t, 20)
}

// What is answered of the engine and the gateway is the asker's own.
func TestAnswersAreTheAskers(t *testing.T) {
	p := lates(t)
	p.w.Gate().Records()[0] = gate.Record{}
	p.w.Engine().Payouts()[0] = attempt.Payout{}
	p.w.Engine().Balances()[0] = book.Line{}
	p.check(t)
}

// A nil world; and one that New didn't make has nothing that could be done.
func checkNil(t *testing.T, w *World) {
	t.Helper()
	for _, x := range []Step{{}, step("tick"), failing(late("tick", 0), 1, 64), step("sale s1 EUR - 5 ann:1", 1, 2), {C: api.Command{Kind: "x"}, Fuse: 65535, Late: math.MaxInt}} {
		if r := w.Do(x); r != (Report{E: api.ErrArg}) {
			t.Fatalf("Do(%v): %v", x, r)
		}
	}
	if w.Engine() != nil || w.Gate() != nil {
		t.Fatal("it has something")
	}
}

func TestNilWorld(t *testing.T) {
	checkNil(t, nil)
	checkNil(t, &World{})
}

func TestExample(t *testing.T) {
	w := made(t, 400, tenth)
	if r := w.Do(step("sale s1 EUR - 1000 ann:1")); r != did("sale", 100, 0) {
		t.Fatal(r)
	}
	for n := range 8 {
		if r := w.Do(step("tick")); r != did("tick", int64(n/7), n/7) {
			t.Fatal(n, r)
		}
	}
	if w.Engine().Balance(book.Paid, "ann", "EUR") != 900 || !slices.Equal(w.Gate().Records(), []gate.Record{{Key: "1/EUR/ann", Party: "ann", Currency: "EUR", Amount: 900, Moved: true}}) {
		t.Fatal(w.Engine().Balances(), w.Gate().Records())
	}
}
