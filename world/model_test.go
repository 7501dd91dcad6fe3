package world

import (
	"fmt"
	"slices"
	"strings"
	"testing"

	"souk/api"
	"souk/attempt"
	"souk/block"
	"souk/book"
	"souk/command"
	"souk/disk"
	"souk/gate"
	"souk/journal"
	"souk/lots"
	"souk/plan"
	"souk/state"
)

// Two plans: by the second one each command has something to do.
const (
	tenth    = "tier 0 10%;"
	reserved = "tier 0 10%; tier 5000 5.5%; cap 2000; category books 2%; tax 20%; reserve 25% 4;"
)

// model is what a world should be: the records that stand on so many blocks, and their state by layer 19 alone, neither disk nor engine; and a gateway of its own.
type model struct {
	blocks  int
	records []string
	stand   []string // the records' blocks
	state   *state.State
	gate    *gate.Gate

	fuse    int // how many things may still be done; below 0: any many
	dead    bool
	pending []string // the blocks behind the records that were written, and aren't synced
}

func newModel(t *testing.T, blocks int, text string) *model {
	t.Helper()
	m := &model{blocks: blocks, gate: &gate.Gate{}, fuse: -1}
	m.replay(t, text)
	return m
}

// replay makes it anew of records.
func (m *model) replay(t *testing.T, records ...string) {
	t.Helper()
	m.records, m.stand = records, laid(records...)
	rules, _, e := plan.Parse(records[0])
	if e != api.OK {
		t.Fatalf("Parse(%q): %d", records[0], e)
	}
	s, e := state.New(rules...)
	if e != api.OK {
		t.Fatalf("New(%q): %d", records[0], e)
	}
	for _, record := range records[1:] {
		c, e := command.Decode(record)
		if e != api.OK {
			t.Fatalf("%q is no command: %d", record, e)
		}
		if _, _, e := s.Do(c); e != api.OK {
			t.Fatalf("%v: %d", c, e)
		}
	}
	m.state = s
}

// laid is the blocks of records.
func laid(records ...string) []string {
	var l []string
	for i, record := range records {
		b, _ := block.Pack(int64(i), record)
		l = append(l, b...)
	}
	return l
}

func (m *model) room() int { return m.blocks - len(m.stand) }

// thing is a write, or a sync; false: the power failed.
func (m *model) thing() bool {
	m.dead = m.fuse == 0
	m.fuse = max(m.fuse-1, -1)
	return !m.dead
}

// done does a command.
func (m *model) done(c api.Command) (state.Reply, []api.Request, api.Errno) {
	if m.dead {
		return state.Reply{}, nil, api.ErrCrash
	}
	_, told := m.state.Told(c.ID)
	next := m.state.Clone()
	r, l, e := next.Do(c)
	if e != api.OK || told {
		return r, l, e
	}
	record, _ := command.Encode(c)
	blocks, _ := block.Pack(int64(len(m.records)), record)
	if len(blocks) > m.room() {
		return state.Reply{}, nil, api.ErrFull
	}
	for _, b := range blocks {
		m.pending = append(m.pending, b)
		if !m.thing() {
			return state.Reply{}, nil, api.ErrCrash
		}
	}
	if !m.thing() {
		return state.Reply{}, nil, api.ErrCrash
	}
	m.pending = nil
	m.records, m.stand, m.state = append(m.records, record), append(m.stand, blocks...), next
	return r, l, api.OK
}

// hear does the command of a reply: 1, if it was heard, else 0.
func (m *model) hear(x gate.Reply) int {
	_, _, e := m.done(api.Command{Kind: "reply", About: x.Key, Category: x.Kind, Amount: x.Attempt})
	if e != api.OK {
		return 0
	}
	return 1
}

// restart lets the power come again: so many bytes of what is pending stand, on blocks that were empty.
func (m *model) restart(t *testing.T, keep []uint8) {
	t.Helper()
	stand := m.stand
	for i, b := range m.pending {
		kept := 0
		if i < len(keep) {
			kept = min(int(keep[i]), api.Block)
		}
		stand = append(stand, b[:kept]+disk.Empty()[kept:])
	}
	records, _ := journal.Records(stand...)
	m.replay(t, records...)
	m.pending, m.dead = nil, false
}

// do does a step, as the chapter's words have it.
func (m *model) do(t *testing.T, x Step) Report {
	t.Helper()
	var r Report
	if x.Fuse > 0 {
		m.fuse = int(x.Fuse) - 1
	}
	if reply, ok := m.gate.Late(x.Late); ok {
		r.Heard += m.hear(reply)
	}
	var l []api.Request
	r.R, l, r.E = m.done(x.C)
	choices := x.Choices
	if len(choices) == 0 {
		choices = []uint8{gate.Accept}
	}
	for i, request := range l {
		for _, reply := range m.gate.Ask(request, choices[i%len(choices)]) {
			r.Heard += m.hear(reply)
		}
	}
	if m.dead {
		r.Crashed = true
		m.restart(t, x.Keep)
	}
	m.fuse = -1
	return r
}

// pair is a world, and its model.
type pair struct {
	w      *World
	m      *model
	checks int
}

func made(t *testing.T, blocks int, text string) *World {
	t.Helper()
	w, e := New(blocks, text)
	if e != api.OK || w == nil {
		t.Fatalf("New(%d, %q): %v %d", blocks, text, w, e)
	}
	return w
}

func begin(t *testing.T, blocks int, text string) *pair {
	t.Helper()
	p := &pair{w: made(t, blocks, text), m: newModel(t, blocks, text)}
	p.check(t)
	return p
}

// do does a step to both, and holds all that comes of it against each other.
func (p *pair) do(t *testing.T, x Step) Report {
	t.Helper()
	got, want := p.w.Do(x), p.m.do(t, x)
	if got != want {
		t.Fatalf("Do(%v): %v, not %v", x, got, want)
	}
	p.check(t)
	return got
}

// expect does a step of which the test knows what comes of it.
func (p *pair) expect(t *testing.T, x Step, want Report) {
	t.Helper()
	if got := p.do(t, x); got != want {
		t.Fatalf("Do(%v): %v, not %v", x, got, want)
	}
}

// ticks does so many, at which the gateway chooses so.
func (p *pair) ticks(t *testing.T, n int, choices ...uint8) {
	t.Helper()
	for range n {
		p.do(t, step("tick", choices...))
	}
}

// all does steps in which nothing fails.
func (p *pair) all(t *testing.T, texts ...string) {
	t.Helper()
	for _, text := range texts {
		if r := p.do(t, step(text)); r.E != api.OK {
			t.Fatalf("%s: %v", text, r)
		}
	}
}

// check holds the world against the model.
func (p *pair) check(t *testing.T) {
	t.Helper()
	w, m := p.w, p.m
	if a, b := look(w.Engine()), look(m.state); a != b {
		t.Fatalf("the engine's state is\n%s, not\n%s", a, b)
	}
	if w.Engine().Records() != len(m.records)-1 || w.Engine().Room() != m.room() {
		t.Fatalf("%d records, %d blocks left, not %d, %d", w.Engine().Records(), w.Engine().Room(), len(m.records)-1, m.room())
	}
	if !slices.Equal(w.Gate().Records(), m.gate.Records()) || w.Gate().Waiting() != m.gate.Waiting() {
		t.Fatalf("the gateway has %v, and %d late, not %v, %d", w.Gate().Records(), w.Gate().Waiting(), m.gate.Records(), m.gate.Waiting())
	}
	if w.disk.Dead() {
		t.Fatal("the disk is dead")
	}
	// A great disk takes a while to look through.
	p.checks++
	if m.blocks <= 100 || p.checks%20 == 0 {
		p.checkDisk(t)
	}
}

// checkDisk holds what stands on the disk against the model.
func (p *pair) checkDisk(t *testing.T) {
	t.Helper()
	stand, l := p.w.disk.All(), p.m.stand
	if len(stand) != p.m.blocks || !slices.Equal(stand[:len(l)], l) {
		records, _ := journal.Records(stand...)
		t.Fatalf("%q stand, not %q", records, p.m.records)
	}
	for _, b := range stand[len(l):] {
		if b != disk.Empty() {
			t.Fatalf("%q behind the records", b)
		}
	}
}

// waiting is what is told late, as it stands; it is taken from the model's gateway and from the world's.
func (p *pair) waiting(t *testing.T) []gate.Reply {
	t.Helper()
	var l []gate.Reply
	for p.w.gate.Waiting() > 0 {
		a, _ := p.w.gate.Late(0)
		b, _ := p.m.gate.Late(0)
		if a != b {
			t.Fatalf("%v is told late, not %v", a, b)
		}
		l = append(l, a)
	}
	return l
}

// unfused tells whether the disk has no fuse: the longest one that a step can set burns down in so many things.
func (p *pair) unfused(t *testing.T) {
	t.Helper()
	for range 1 << 16 {
		if e := p.w.disk.Sync(); e != api.OK {
			t.Fatal("the disk has a fuse")
		}
	}
}

// told is what a state, or an engine, tells of itself.
type told interface {
	Now() int64
	Balances() []book.Line
	Lots() []lots.Lot
	Payouts() []attempt.Payout
	Held(party string) bool
	Left(id string) ([]int64, bool)
	Told(id string) (state.Reply, bool)
}

var (
	parties = []string{"ann", "bob", "cy", "a/b", "p1234567890123456789"}
	ids     = []string{"s0", "s1", "s2", "s3", "s4", "s5", "r1", "r2", "c1", "c2", "v1", "h1", "h2", "f1", "x"}
)

func look(s told) string {
	var b strings.Builder
	fmt.Fprint(&b, s.Now(), s.Balances(), s.Lots(), s.Payouts())
	for _, p := range parties {
		fmt.Fprint(&b, s.Held(p))
	}
	for _, id := range ids {
		left, ok := s.Left(id)
		was, was2 := s.Told(id)
		fmt.Fprint(&b, left, ok, was, was2)
	}
	return b.String()
}

func parsed(text string) api.Command {
	c, e := command.Parse(text)
	if e != api.OK {
		panic(text)
	}
	return c
}

// step is one of a command's text, in which nothing is late, and nothing fails.
func step(text string, choices ...uint8) Step {
	return Step{C: parsed(text), Choices: choices, Late: -1}
}

// late is a step in which a reply is told late.
func late(text string, n int, choices ...uint8) Step {
	x := step(text, choices...)
	x.Late = n
	return x
}

// failing is a step in which the power fails.
func failing(x Step, fuse uint16, keep ...uint8) Step {
	x.Fuse, x.Keep = fuse, keep
	return x
}

// did is what is told of a step without an error in which nothing failed.
func did(kind string, n int64, heard int) Report {
	return Report{R: state.Reply{Kind: kind, N: n}, Heard: heard}
}

// balance is one of the world's engine, in EUR.
func (p *pair) balance(kind, party string) int64 {
	return p.w.Engine().Balance(kind, party, "EUR")
}
