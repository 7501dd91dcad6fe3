package engine

import (
	"fmt"
	"math"
	"slices"
	"strings"
	"testing"

	"souk/api"
	"souk/attempt"
	"souk/block"
	"souk/book"
	"souk/command"
	"souk/disk"
	"souk/journal"
	"souk/lots"
	"souk/plan"
	"souk/state"
)

const tenth = "tier 0 10%;"

// market is the records of an engine, and its state by layer 19 alone.
type market struct {
	records []string
	s       *state.State
}

func newMarket(t *testing.T, text string) *market {
	t.Helper()
	rules, _, e := plan.Parse(text)
	if e != api.OK {
		t.Fatalf("Parse(%q): %d", text, e)
	}
	s, e := state.New(rules...)
	if e != api.OK {
		t.Fatalf("New(%q): %d", text, e)
	}
	return &market{records: []string{text}, s: s}
}

func (m *market) clone() *market {
	return &market{records: slices.Clone(m.records), s: m.s.Clone()}
}

// adds tells whether a command would be a record more.
func (m *market) adds(c api.Command) bool {
	_, told := m.s.Told(c.ID)
	_, _, e := m.s.Clone().Do(c)
	return e == api.OK && (c.ID == "" || !told)
}

func (m *market) do(c api.Command) (state.Reply, []api.Request, api.Errno) {
	if m.adds(c) {
		record, _ := command.Encode(c)
		m.records = append(m.records, record)
	}
	return m.s.Do(c)
}

// blocks is those of its records.
func (m *market) blocks() []string { return laid(m.records...) }

func laid(records ...string) []string {
	var l []string
	for i, record := range records {
		b, _ := block.Pack(int64(i), record)
		l = append(l, b...)
	}
	return l
}

// size is how many blocks a command has.
func size(c api.Command) int {
	record, _ := command.Encode(c)
	return len(laid(record))
}

// diskOf is one on which that stands, and empty blocks behind it.
func diskOf(t *testing.T, l []string, blocks int) *disk.Disk {
	t.Helper()
	d := disk.New(blocks)
	for i, b := range l {
		if e := d.Write(i, b); e != api.OK {
			t.Fatal(e)
		}
	}
	if e := d.Sync(); e != api.OK {
		t.Fatal(e)
	}
	return d
}

func parsed(t *testing.T, text string) api.Command {
	t.Helper()
	c, e := command.Parse(text)
	if e != api.OK {
		t.Fatalf("Parse(%q): %d", text, e)
	}
	return c
}

func created(t *testing.T, d *disk.Disk, text string) *Engine {
	t.Helper()
	e, f := Create(d, text)
	if f != api.OK || e == nil || e.State == nil {
		t.Fatalf("Create(%q): %d", text, f)
	}
	return e
}

func opened(t *testing.T, d *disk.Disk) *Engine {
	t.Helper()
	e, f := Open(d)
	if f != api.OK || e == nil || e.State == nil {
		t.Fatalf("Open: %d", f)
	}
	return e
}

func notOpened(t *testing.T, d *disk.Disk, want api.Errno) {
	t.Helper()
	if e, f := Open(d); f != want || e != nil {
		t.Fatalf("Open: %v %d, not %d", e, f, want)
	}
}

func notCreated(t *testing.T, d *disk.Disk, text string, want api.Errno) {
	t.Helper()
	if e, f := Create(d, text); f != want || e != nil {
		t.Fatalf("Create(%.40q): %v %d, not %d", text, e, f, want)
	}
}

// told is what a state, or an engine, tells of itself.
type told interface {
	Now() int64
	Balances() []book.Line
	Balance(kind, party, currency string) int64
	Lots() []lots.Lot
	Payouts() []attempt.Payout
	Held(party string) bool
	Left(id string) ([]int64, bool)
	Told(id string) (state.Reply, bool)
}

var (
	parties = []string{"ann", "bob", "cy"}
	ids     = []string{"", "s0", "s1", "s2", "s3", "r1", "r2", "c1", "c2", "v1", "h1", "h2", "f1", "x"}
)

func look(s told) string {
	var b strings.Builder
	fmt.Fprint(&b, s.Now(), s.Balances(), s.Lots(), s.Payouts())
	for _, p := range parties {
		fmt.Fprint(&b, s.Held(p))
		for _, kind := range []string{book.Available, book.Debt, book.Reserve, book.Flight, book.Paid} {
			fmt.Fprint(&b, s.Balance(kind, p, "EUR"), s.Balance(kind, p, "USD"))
		}
	}
	for _, id := range ids {
		left, ok := s.Left(id)
		was, was2 := s.Told(id)
		fmt.Fprint(&b, left, ok, was, was2)
	}
	return b.String()
}

// check holds an engine, and what stands on its disk, against what it should be.
func check(t *testing.T, e *Engine, d *disk.Disk, m *market) {
	t.Helper()
	checkState(t, e, m)
	l := m.blocks()
	if e.Room() != d.Len()-len(l) {
		t.Fatalf("Room: %d of %d blocks, of which %d have records", e.Room(), d.Len(), len(l))
	}
	all := d.All()
	if !slices.Equal(all[:len(l)], l) {
		records, _ := journal.Records(all...)
		t.Fatalf("%q stand, not %q", records, m.records)
	}
	for _, b := range all[len(l):] {
		if b != disk.Empty() {
			t.Fatalf("%q behind the records", b)
		}
	}
}

func checkState(t *testing.T, e *Engine, m *market) {
	t.Helper()
	if a, b := look(e), look(m.s); a != b {
		t.Fatalf("the engine's state is\n%s, not\n%s", a, b)
	}
	if e.Records() != len(m.records)-1 {
		t.Fatalf("Records: %d, not %d", e.Records(), len(m.records)-1)
	}
}

// do does a command to both, and holds what they tell against each other.
func do(t *testing.T, e *Engine, m *market, c api.Command) api.Errno {
	t.Helper()
	r, l, f := e.Do(c)
	r2, l2, f2 := m.do(c)
	if r != r2 || !slices.Equal(l, l2) || f != f2 {
		t.Fatalf("Do(%v): %v %v %d, not %v %v %d", c, r, l, f, r2, l2, f2)
	}
	return f
}

// refused does a command that has an error: nothing is done.
func refused(t *testing.T, e *Engine, c api.Command, want api.Errno) {
	t.Helper()
	was, records, room := look(e), e.Records(), e.Room()
	r, l, f := e.Do(c)
	if r != (state.Reply{}) || len(l) != 0 || f != want {
		t.Fatalf("Do(%v): %v %v %d, not %d", c, r, l, f, want)
	}
	if look(e) != was || e.Records() != records || e.Room() != room {
		t.Fatalf("Do(%v), refused, changed something", c)
	}
}

// story is commands of each kind, some with errors, some told again, some without an ID.
var story = []string{
	"tick",
	"sale s1 EUR - 1000 ann:3 bob:1",
	"refund r1 s1 100",
	"sale s2 EUR books 100000 ann:1 bob:2 cy:3",
	"sale s2 EUR books 100000 ann:1 bob:2 cy:3",
	"refund r2 s3 1",
	"refund r2 s1 5000",
	"chargeback c1 s1 300",
	"hold h1 cy",
	"sale s3 USD - 7777 bob:1",
	"reverse v1 c1",
	"reverse v2 c1",
	"chargeback c2 s3 7000",
	"tick", "tick", "tick", "tick", "tick", "tick", "tick",
	"reply 1/EUR/ann accepted 1",
	"reply 1/EUR/ann accepted 1",
	"reply 1/EUR/bob declined 1",
	"reply 9/EUR/bob declined 1",
	"tick",
	"free f1 cy",
	"tick", "tick",
	"hold h2 bob",
	"hold h1 ann",
	"tick", "tick", "tick", "tick", "tick",
	"reply 2/EUR/cy declined 2",
	"refund r2 s2 90000",
	"tick", "tick", "tick", "tick",
}

// reserved is a plan by which each command has something to do.
const reserved = "tier 0 10%; tier 5000 5.5%; cap 2000; category books 2%; tax 20%; reserve 25% 4;"

func commands(t *testing.T, texts []string) []api.Command {
	t.Helper()
	var l []api.Command
	for _, text := range texts {
		l = append(l, parsed(t, text))
	}
	return l
}

// P20.1: Create.

func TestCreate(t *testing.T) {
	long := reserved + strings.Repeat(" ", 99)
	most := tenth + strings.Repeat("\n", 255*block.Data-len(tenth))
	for _, text := range []string{tenth, " tier 0 1%;cap 5 ; ", long, most} {
		need := len(laid(text))
		for _, more := range []int{0, 1, 2, 50} {
			d := disk.New(need + more)
			e := created(t, d, text)
			check(t, e, d, newMarket(t, text))
			if e.Room() != more || e.Records() != 0 || e.Now() != 0 {
				t.Fatal(e.Room(), e.Records())
			}
		}
		for _, blocks := range []int{0, 1, need - 1} {
			if blocks < need {
				d := disk.New(blocks)
				notCreated(t, d, text, api.ErrFull)
				checkEmpty(t, d)
			}
		}
	}
	notCreated(t, disk.New(1000), most+" ", api.ErrArg)
}

func checkEmpty(t *testing.T, d *disk.Disk) {
	t.Helper()
	for _, b := range d.All() {
		if b != disk.Empty() {
			t.Fatalf("%q stands", b)
		}
	}
}

// What is there of texts that are no sound plans.
func wrongTexts() []string {
	return []string{
		"", " ", ";", "tier", "tier 0 10%", "tier 0 10% tier 0 10%;", "cap 5; tier 5% 0;", "tier 0 10%;;", "bid 0 10%;", "tier 0 10%;\x00", "\xff", "tier 0 1.555%;",
		"cap 10000000000000000;", strings.Repeat("cap 1;", 41), "tier 0 99999999%;",
		"cap 5;", "tier 1 1%;", "tier 0 1%; tier 0 2%;", "tier 0 101%;", "tier 0 1%; cap 5; cap 6;", "tier 0 1%; minimum 6; cap 5;", "tier 0 1%; reserve 5% 0;tax 1%;tax 2%;",
		"tier 0 1%; category a 1%; category a 1%;",
	}
}

func TestCreateOfWrongTexts(t *testing.T) {
	for _, text := range wrongTexts() {
		for _, blocks := range []int{0, 1, 9} {
			d := disk.New(blocks)
			d.Fail(0)
			notCreated(t, d, text, api.ErrPlan)
			if d.Dead() {
				t.Fatalf("%q was written", text)
			}
			checkEmpty(t, d)
		}
	}
}

// deadDisk is one whose power failed, on which that stands.
func deadDisk(t *testing.T, l []string, blocks int) *disk.Disk {
	t.Helper()
	d := diskOf(t, l, blocks)
	d.Fail(0)
	if d.Sync() != api.ErrCrash || !d.Dead() {
		t.Fatal("alive")
	}
	return d
}

// Several errors at once: the promise's order decides.
func TestCreateErrorsInOrder(t *testing.T) {
	full := laid("a record")
	huge := tenth + strings.Repeat(" ", 255*block.Data)
	for _, x := range []struct {
		name string
		d    *disk.Disk
		text string
		want api.Errno
	}{
		{"no disk", nil, tenth, api.ErrArg},
		{"a dead one", deadDisk(t, nil, 9), tenth, api.ErrCrash},
		{"a dead one of no blocks", deadDisk(t, nil, 0), tenth, api.ErrCrash},
		{"a dead one with records", deadDisk(t, full, 9), tenth, api.ErrCrash},
		{"records", diskOf(t, full, 9), tenth, api.ErrTwice},
		{"records, that fill it", diskOf(t, full, 1), tenth, api.ErrTwice},
		{"records, a long text", diskOf(t, full, 9), huge, api.ErrTwice},
		{"a long text, no blocks", disk.New(0), huge, api.ErrArg},
		{"a long text, a dead disk", deadDisk(t, nil, 9), huge, api.ErrCrash},
		{"no disk, no plan", nil, "tier 0 10%", api.ErrPlan},
		{"no disk, unsound", nil, "tier 1 10%;", api.ErrPlan},
		{"a dead one, no plan", deadDisk(t, nil, 9), "tier 0 10%", api.ErrPlan},
		{"a dead one with records, unsound", deadDisk(t, full, 9), "cap 5;", api.ErrPlan},
		{"records, no plan", diskOf(t, full, 9), "cap", api.ErrPlan},
		{"records, unsound", diskOf(t, full, 1), "cap 5;", api.ErrPlan},
		{"no blocks, unsound", disk.New(0), "cap 5;", api.ErrPlan},
	} {
		t.Run(x.name, func(t *testing.T) {
			was, dead := x.d.All(), x.d.Dead()
			notCreated(t, x.d, x.text, x.want)
			if !slices.Equal(x.d.All(), was) || x.d.Dead() != dead {
				t.Fatal("the disk was changed")
			}
		})
	}
}

// Of an engine that is there already nothing is changed, and it goes on.
func TestCreateTwice(t *testing.T) {
	d := disk.New(20)
	e, m := created(t, d, reserved), newMarket(t, reserved)
	do(t, e, m, parsed(t, "tick"))
	for _, text := range []string{reserved, tenth} {
		notCreated(t, d, text, api.ErrTwice)
		check(t, e, d, m)
	}
	check(t, opened(t, d), d, m)
	do(t, e, m, parsed(t, "tick"))
	check(t, e, d, m)
}

// What is no record is cleared by opening the disk (layer 6), and an engine is created there.
func TestCreateWhereNoRecordStands(t *testing.T) {
	two := laid(strings.Repeat("a", 60))
	d := diskOf(t, []string{two[1], two[0], strings.Repeat("x", 64)}, 6)
	check(t, created(t, d, tenth), d, newMarket(t, tenth))
}

// P20.1: Open.

// recordOf is the bytes of a command.
func recordOf(t *testing.T, text string) string {
	t.Helper()
	record, e := command.Encode(parsed(t, text))
	if e != api.OK {
		t.Fatal(e)
	}
	return record
}

func TestOpenOfNoEngine(t *testing.T) {
	notOpened(t, nil, api.ErrArg)
	for _, blocks := range []int{0, 1, 30} {
		d := disk.New(blocks)
		notOpened(t, d, api.ErrNone)
		checkEmpty(t, d)
		notOpened(t, deadDisk(t, nil, blocks), api.ErrCrash)
	}
	notOpened(t, deadDisk(t, laid(tenth), 3), api.ErrCrash)
	notOpened(t, deadDisk(t, laid("none's"), 3), api.ErrCrash)
	two := laid(strings.Repeat("a", 60))
	notOpened(t, diskOf(t, two[1:], 3), api.ErrNone)
	notOpened(t, diskOf(t, two[:1], 3), api.ErrNone)
	notOpened(t, diskOf(t, append([]string{disk.Empty()}, laid(tenth)...), 3), api.ErrNone)
}

func TestOpenOfOtherRecords(t *testing.T) {
	tick, sale := recordOf(t, "tick"), recordOf(t, "sale s1 EUR - 1000 ann:3 bob:1")
	for _, text := range wrongTexts() {
		if text == "" {
			continue // no record is empty
		}
		notOpenedOf(t, text)
		notOpenedOf(t, text, tick)
	}
	notOpenedOf(t, tick)
	notOpenedOf(t, sale, tenth)
	for _, x := range []string{
		"x", "tick", tenth, "\x00", tick[:len(tick)-1], tick + "\x00", tick + tick, sale[:len(sale)-1], sale + "\x00", sale[1:],
		strings.Replace(sale, "EUR", "EUr", 1), strings.Replace(sale, "bob", "ann", 1), strings.Replace(sale, "s1", "s ", 1), strings.Replace(sale, "sale", "sole", 1),
		strings.Replace(recordOf(t, "hold h1 ann"), "h1", "\x0a\x0d", 1),
		strings.Repeat("\x00", 30), strings.Repeat("\xff", 99),
	} {
		notOpenedOf(t, tenth, x)
		notOpenedOf(t, tenth, x, tick)
		notOpenedOf(t, tenth, tick, sale, x, tick)
		notOpenedOf(t, tenth, tick, sale, tick, x)
	}
}

func notOpenedOf(t *testing.T, records ...string) {
	t.Helper()
	l := laid(records...)
	d := diskOf(t, l, len(l)+3)
	was := d.All()
	notOpened(t, d, api.ErrForm)
	if !slices.Equal(d.All(), was) || d.Dead() {
		t.Fatalf("%q: the disk was changed", records)
	}
}

// Commands that are right, but have an error where they stand.
func TestOpenOfCommandsThatCannotBeDone(t *testing.T) {
	right := []string{"tick", "sale s1 EUR - 1000 ann:3 bob:1", "chargeback c1 s1 10", "reverse v1 c1"}
	for _, wrong := range []string{"refund r1 s2 5", "refund r1 s1 1001", "chargeback c2 s1 1001", "chargeback c2 s7 1", "reverse v2 c1", "reverse v2 s1", "reply 1/EUR/ann accepted 1"} {
		for at := range len(right) + 1 {
			texts := slices.Insert(slices.Clone(right), at, wrong)
			if wrong == "reverse v2 c1" && at < len(right) {
				continue // not yet reversed
			}
			records := []string{tenth}
			for _, text := range texts {
				records = append(records, recordOf(t, text))
			}
			notOpenedOf(t, records...)
		}
	}
	// By another plan a sale costs more than it is.
	notOpenedOf(t, "tier 0 100%; tax 100%; minimum 5;", recordOf(t, "refund r1 s1 5"))
}

func TestOpen(t *testing.T) {
	list := commands(t, story)
	m := newMarket(t, reserved)
	all := m.clone()
	for _, c := range list {
		all.do(c)
	}
	for _, c := range list {
		for _, more := range []int{0, 1, 7} {
			d := diskOf(t, m.blocks(), len(m.blocks())+more)
			e := opened(t, d)
			check(t, e, d, m)
			check(t, opened(t, d), d, m)
		}
		m.do(c)
	}
	if len(m.records) < 30 {
		t.Fatal("a short story")
	}
}

// Commands that were told already stand where another made them so: they do nothing, and are no error.
func TestOpenOfCommandsThatWereTold(t *testing.T) {
	records := []string{tenth}
	for _, text := range []string{"sale s1 EUR - 1000 ann:1", "tick", "sale s1 EUR - 1000 ann:1", "refund r1 s1 100", "refund r1 s1 5000", "hold s1 ann", "tick"} {
		records = append(records, recordOf(t, text))
	}
	d := diskOf(t, laid(records...), len(laid(records...))+4)
	e := opened(t, d)
	if e.Records() != 7 || e.Room() != 4 || e.Now() != 2 || e.Balance(book.Available, "ann", "EUR") != 810 || e.Held("ann") {
		t.Fatal(e.Records(), e.Room(), look(e))
	}
	if r, _, f := e.Do(parsed(t, "refund r1 s1 7")); f != api.OK || r != (state.Reply{Kind: "refund", N: 90}) || e.Records() != 7 {
		t.Fatal(r, f)
	}
	if _, _, f := e.Do(parsed(t, "tick")); f != api.OK || e.Records() != 8 || e.Room() != 3 {
		t.Fatal(f)
	}
	x := opened(t, d)
	if look(x) != look(e) || x.Records() != 8 {
		t.Fatal(look(x))
	}
}

// P20.1: Do.

// What each kind tells, what is asked of the gateway, and how many blocks it takes.
func TestDoOfEachKind(t *testing.T) {
	d := disk.New(60)
	e := created(t, d, tenth)
	room := e.Room()
	for i, x := range []struct {
		text     string
		n        int64
		requests []api.Request
		blocks   int
	}{
		{"sale s1 EUR - 1000 ann:1", 100, nil, 1},
		{"sale s2 EUR - 2000 ann:1 bob:1", 200, nil, 2},
		{"refund r1 s1 100", 90, nil, 1},
		{"chargeback c1 s2 1000", 900, nil, 1},
		{"reverse v1 c1", 1000, nil, 1},
		{"hold h1 ann", 1, nil, 1},
		{"hold h2 cy", 2, nil, 1},
		{"free f1 ann", 1, nil, 1},
		{"tick", 0, nil, 1}, {"tick", 0, nil, 1}, {"tick", 0, nil, 1}, {"tick", 0, nil, 1}, {"tick", 0, nil, 1}, {"tick", 0, nil, 1}, {"tick", 0, nil, 1},
		{"tick", 2, []api.Request{
			{Kind: "pay", Key: "1/EUR/ann", Party: "ann", Currency: "EUR", Amount: 1710, Attempt: 1},
			{Kind: "pay", Key: "1/EUR/bob", Party: "bob", Currency: "EUR", Amount: 900, Attempt: 1},
		}, 1},
		{"reply 1/EUR/ann accepted 1", 1, nil, 1},
		{"reply 1/EUR/ann accepted 1", 0, nil, 1},
		{"tick", 0, nil, 1},
		{"tick", 1, []api.Request{{Kind: "query", Key: "1/EUR/bob", Party: "bob", Currency: "EUR", Amount: 900, Attempt: 2}}, 1},
		{"reply 1/EUR/bob declined 2", 1, nil, 1},
	} {
		c := parsed(t, x.text)
		r, l, f := e.Do(c)
		if r != (state.Reply{Kind: c.Kind, N: x.n}) || !slices.Equal(l, x.requests) || f != api.OK {
			t.Fatalf("%s: %v %v %d", x.text, r, l, f)
		}
		room -= x.blocks
		if e.Records() != i+1 || e.Room() != room || size(c) != x.blocks {
			t.Fatalf("%s: %d records, %d blocks left", x.text, e.Records(), e.Room())
		}
	}
	if e.Balance(book.Paid, "ann", "EUR") != 1710 || e.Balance(book.Available, "bob", "EUR") != 900 || e.Now() != 10 {
		t.Fatal(look(e))
	}
}

// At each place of a story the engine, what stands, and the one that is opened of it are alike, and go on alike.
func TestDo(t *testing.T) {
	list := commands(t, story)
	d := disk.New(90)
	e, m := created(t, d, reserved), newMarket(t, reserved)
	for i, c := range list {
		check(t, e, d, m)
		if look(e.State) != look(e) || look(e.Clone()) != look(e) {
			t.Fatal("its state is another one")
		}
		other := diskOf(t, d.All(), d.Len())
		x, n := opened(t, other), m.clone()
		for _, c := range list[i:] {
			do(t, x, n, c)
			check(t, x, other, n)
		}
		do(t, e, m, c)
	}
	check(t, e, d, m)
	if m.s.Balance(book.Paid, "ann", "EUR") == 0 || len(m.s.Payouts()) < 4 || len(m.s.Lots()) > 0 {
		t.Fatal("a short story")
	}
}

// An engine's state is the thing itself; a clone goes on apart.
func TestStateOfAnEngine(t *testing.T) {
	d := disk.New(20)
	e := created(t, d, tenth)
	s, apart := e.State, e.Clone()
	e.Do(parsed(t, "tick"))
	if s.Now() != 1 || e.State != s || apart.Now() != 0 {
		t.Fatal(s.Now(), apart.Now())
	}
	apart.Do(parsed(t, "sale s1 EUR - 1000 ann:1"))
	if _, ok := e.Told("s1"); ok {
		t.Fatal("not apart")
	}
	e.Do(parsed(t, "sale s1 EUR - 2000 ann:1"))
	if apart.Balance(book.Available, "ann", "EUR") != 900 || s.Balance(book.Available, "ann", "EUR") != 1800 {
		t.Fatal("not apart")
	}
}

// wrongCommands is some that may not be, each with its error.
func wrongCommands() map[string]struct {
	c    api.Command
	want api.Errno
} {
	type row = struct {
		c    api.Command
		want api.Errno
	}
	ann, bob := api.Share{Party: "ann", Weight: 1}, api.Share{Party: "bob", Weight: 2}
	sale := func(shares ...api.Share) api.Command {
		return api.Command{Kind: "sale", ID: "x", Currency: "EUR", Amount: 10, Shares: shares}
	}
	return map[string]row{
		"nothing":             {api.Command{}, api.ErrArg},
		"another kind":        {api.Command{Kind: "payout", ID: "x"}, api.ErrArg},
		"a tick with an ID":   {api.Command{Kind: "tick", ID: "x"}, api.ErrArg},
		"a reply with an ID":  {api.Command{Kind: "reply", ID: "x", About: "1/EUR/ann", Category: "accepted", Amount: 1}, api.ErrArg},
		"a refund of no ID":   {api.Command{Kind: "refund", About: "s1", Amount: 5}, api.ErrArg},
		"a refund of 0":       {api.Command{Kind: "refund", ID: "x", About: "s1"}, api.ErrArg},
		"a refund of less":    {api.Command{Kind: "refund", ID: "x", About: "s1", Amount: math.MinInt64}, api.ErrArg},
		"a sale of no shares": {sale(), api.ErrArg},
		"a share of 0":        {sale(ann, api.Share{Party: "bob"}), api.ErrArg},
		"a party twice":       {sale(ann, bob, ann), api.ErrTwice},
		"nine shares":         {sale(slices.Repeat([]api.Share{ann}, 9)...), api.ErrArg},
		"too great an amount": {api.Command{Kind: "sale", ID: "x", Currency: "EUR", Amount: api.MaxAmount + 1, Shares: []api.Share{ann}}, api.ErrArg},
		"a long ID":           {api.Command{Kind: "hold", ID: strings.Repeat("x", 21), About: "ann"}, api.ErrArg},
		"a hold of nobody":    {api.Command{Kind: "hold", ID: "x"}, api.ErrArg},
	}
}

// afterwards is some commands behind the story's first part, each with its error.
var afterwards = []struct {
	text string
	want api.Errno
}{
	{"refund x s7 1", api.ErrNone},
	{"refund x c1 1", api.ErrNone},
	{"refund x s1 9999", api.ErrMore},
	{"chargeback x s1 9999", api.ErrMore},
	{"chargeback x s7 1", api.ErrNone},
	{"reverse x s1", api.ErrNone},
	{"reverse x c1", api.ErrState},
	{"reply 7/EUR/ann accepted 1", api.ErrNone},
	{"reply x accepted 1", api.ErrNone},
}

func TestDoOfWrongCommands(t *testing.T) {
	d := disk.New(200)
	e, m := created(t, d, reserved), newMarket(t, reserved)
	for i, c := range commands(t, story) {
		do(t, e, m, c)
		d.Fail(0)
		for name, x := range wrongCommands() {
			refused(t, e, x.c, x.want)
			if d.Dead() {
				t.Fatalf("%s: it was written", name)
			}
		}
		for _, x := range afterwards {
			if i > 12 {
				refused(t, e, parsed(t, x.text), x.want)
			}
		}
		d.Fail(-1)
		check(t, e, d, m)
	}
	// The ID of what was refused isn't taken.
	do(t, e, m, parsed(t, "sale x EUR - 500 bob:1"))
	check(t, e, d, m)
	check(t, opened(t, d), d, m)
}

// A sale that brings a balance beyond 64 bits is the 8192nd of 2^50.
func TestDoOfTooMuch(t *testing.T) {
	d := disk.New(20000)
	e, m := created(t, d, "tier 0 0%;"), newMarket(t, "tier 0 0%;")
	sale := func(n int) api.Command {
		return api.Command{Kind: "sale", ID: fmt.Sprint(n), Currency: "EUR", Amount: api.MaxAmount, Shares: []api.Share{{Party: "ann", Weight: 1}}}
	}
	for n := range 8191 {
		if _, _, f := e.Do(sale(n)); f != api.OK {
			t.Fatal(n, f)
		}
		m.s.Do(sale(n))
		record, _ := command.Encode(sale(n))
		m.records = append(m.records, record)
	}
	d.Fail(0)
	refused(t, e, sale(8191), api.ErrOver)
	refused(t, e, sale(8192), api.ErrOver)
	d.Fail(-1)
	check(t, e, d, m)
	do(t, e, m, parsed(t, "refund r1 17 5"))
	do(t, e, m, sale(8192))
	refused(t, e, sale(8191), api.ErrOver)
	check(t, e, d, m)
	check(t, opened(t, d), d, m)
}

// An ID that was told: nothing is done again, whatever is asked under it, unless that may not be.
func TestDoOfWhatWasTold(t *testing.T) {
	d := disk.New(11)
	e, m := created(t, d, tenth), newMarket(t, tenth)
	for _, text := range []string{"sale s1 EUR - 1000 ann:3 bob:1", "refund r1 s1 100", "chargeback c1 s1 300", "reverse v1 c1", "hold h1 ann", "free f1 ann", "tick"} {
		do(t, e, m, parsed(t, text))
	}
	again := func() {
		t.Helper()
		for id, want := range map[string]state.Reply{"s1": {Kind: "sale", N: 100}, "r1": {Kind: "refund", N: 90}, "c1": {Kind: "chargeback", N: 270}, "v1": {Kind: "reverse", N: 300}, "h1": {Kind: "hold", N: 1}, "f1": {Kind: "free", N: 0}} {
			for _, text := range []string{"sale # EUR - 1000 ann:3 bob:1", "sale # USD books 1 cy:8", "refund # s1 100", "refund # s1 99999", "refund # s9 1", "chargeback # s1 300", "chargeback # none 300", "reverse # c1", "reverse # s1", "hold # ann", "hold # cy", "free # ann"} {
				c := parsed(t, strings.Replace(text, "#", id, 1))
				if r, l, f := e.Do(c); r != want || len(l) != 0 || f != api.OK {
					t.Fatalf("%v: %v %v %d, not %v", c, r, l, f, want)
				}
				c.Amount = -5
				refused(t, e, c, api.ErrArg)
			}
			refused(t, e, api.Command{Kind: "sale", ID: id, Currency: "EUR", Amount: 9, Shares: []api.Share{{Party: "a", Weight: 1}, {Party: "a", Weight: 1}}}, api.ErrTwice)
			refused(t, e, api.Command{Kind: "tick", ID: id}, api.ErrArg)
		}
		check(t, e, d, m)
	}
	d.Fail(0)
	again()
	if d.Dead() {
		t.Fatal("something was written")
	}
	d.Fail(-1)
	for e.Room() > 0 {
		do(t, e, m, parsed(t, "tick"))
	}
	again()
	e = opened(t, d)
	again()
	deadly(t, d)
	for _, text := range []string{"sale s1 EUR - 1000 ann:3 bob:1", "hold s1 ann", "tick"} {
		refused(t, e, parsed(t, text), api.ErrCrash)
	}
}

func deadly(t *testing.T, d *disk.Disk) {
	t.Helper()
	d.Fail(0)
	if d.Sync() != api.ErrCrash {
		t.Fatal("alive")
	}
}

// Without an ID each one is a record, though it may change nothing.
func TestDoWithoutID(t *testing.T) {
	d := disk.New(100)
	e, m := created(t, d, tenth), newMarket(t, tenth)
	do(t, e, m, parsed(t, "sale s1 EUR - 1000 ann:1"))
	for range 8 {
		do(t, e, m, parsed(t, "tick"))
	}
	if e.Records() != 9 || e.Room() != 90 {
		t.Fatal(e.Records(), e.Room())
	}
	for i, text := range slices.Repeat([]string{"reply 1/EUR/ann unknown 5", "reply 1/EUR/ann accepted 1", "tick", "tick"}, 10) {
		do(t, e, m, parsed(t, text))
		if e.Records() != 10+i || e.Room() != 89-i {
			t.Fatal(e.Records(), e.Room())
		}
	}
	check(t, e, d, m)
	if e.Now() != 28 {
		t.Fatal(e.Now())
	}
	check(t, opened(t, d), d, m)
}

// Room for a command, just so, or for one block less.
func TestDoWithoutRoom(t *testing.T) {
	small := []string{"tick", "hold h1 ann", "refund r1 s0 10", "sale s1 EUR - 10 a:1"}
	for _, text := range []string{
		"tick", "refund r1 s0 5", "sale s1 EUR - 1000 ann:1 bob:1", "sale s1 EUR books 1000 ann:3 bob:1 cy:1 dan:1 eve:8", "reply 1/EUR/ann accepted 1",
		"sale s1234567890123456789 EUR c1234567890123456789 1125899906842624 p1234567890123456789:1 p1234567890123456788:1 p1234567890123456787:1 p1234567890123456786:1",
	} {
		c := parsed(t, text)
		for less := range size(c) + 1 {
			m := newMarket(t, tenth)
			m.do(parsed(t, "sale s0 EUR - 1000 ann:1"))
			for range 8 {
				m.do(parsed(t, "tick"))
			}
			d := diskOf(t, m.blocks(), len(m.blocks())+size(c)-less)
			e := opened(t, d)
			if less == 0 {
				if do(t, e, m, c) != api.OK || e.Room() != 0 {
					t.Fatalf("%s: %d blocks left", text, e.Room())
				}
				check(t, e, d, m)
				continue
			}
			checkFull(t, e, d, m, c, small)
		}
	}
}

// checkFull does a command for which there is no room, and smaller ones, as far as there is some.
func checkFull(t *testing.T, e *Engine, d *disk.Disk, m *market, c api.Command, small []string) {
	t.Helper()
	d.Fail(0)
	for range 3 {
		refused(t, e, c, api.ErrFull)
	}
	wrong := c
	wrong.Amount = -1
	refused(t, e, wrong, api.ErrArg)
	refused(t, e, parsed(t, "refund x "+orElse(c.ID, "s9")+" 1"), api.ErrNone)
	refused(t, e, c, api.ErrFull)
	d.Fail(-1)
	check(t, e, d, m)
	for _, text := range small {
		c := parsed(t, text)
		if size(c) > e.Room() {
			refused(t, e, c, api.ErrFull)
		} else {
			do(t, e, m, c)
		}
		check(t, e, d, m)
	}
	check(t, opened(t, d), d, m)
}

func orElse(a, b string) string {
	if a == "" {
		return b
	}
	return a
}

// With no room at all what has an error has it still.
func TestDoOnAFullDisk(t *testing.T) {
	m := newMarket(t, reserved)
	for _, c := range commands(t, story) {
		m.do(c)
	}
	d := diskOf(t, m.blocks(), len(m.blocks()))
	e := opened(t, d)
	for range 3 {
		for _, x := range wrongCommands() {
			refused(t, e, x.c, x.want)
		}
		for _, x := range afterwards {
			refused(t, e, parsed(t, x.text), x.want)
		}
		for _, text := range []string{"tick", "sale x EUR - 5 ann:1", "refund x s2 5", "hold x ann", "free x ann", "chargeback x s2 1", "reverse x c2", "reply 1/EUR/ann accepted 1"} {
			refused(t, e, parsed(t, text), api.ErrFull)
		}
	}
	check(t, e, d, m)
}

// What is handed in stays as it is, and isn't kept; what is answered isn't shared.
func TestNothingIsShared(t *testing.T) {
	d := disk.New(40)
	e, m := created(t, d, tenth), newMarket(t, tenth)
	behind := []api.Share{{Party: "ann", Weight: 3}, {Party: "bob", Weight: 1}, {Party: "", Weight: -1}}
	c := api.Command{Kind: "sale", ID: "s1", Currency: "EUR", Amount: 1000, Shares: behind[:2]}
	do(t, e, m, c)
	if behind[0] != (api.Share{Party: "ann", Weight: 3}) || behind[1] != (api.Share{Party: "bob", Weight: 1}) || behind[2] != (api.Share{Weight: -1}) {
		t.Fatal(behind)
	}
	behind[0], behind[1] = api.Share{Party: "cy", Weight: 7}, api.Share{}
	check(t, e, d, m)
	for range 7 {
		do(t, e, m, parsed(t, "tick"))
	}
	_, l, _ := e.Do(parsed(t, "tick"))
	m.do(parsed(t, "tick"))
	l[0] = api.Request{}
	e.Balances()[0].Amount++
	e.Payouts()[0].Amount++
	left, _ := e.Left("s1")
	left[0]++
	check(t, e, d, m)
	do(t, e, m, parsed(t, "refund r1 s1 1000"))
	check(t, e, d, m)
	check(t, opened(t, d), d, m)
}

// A disk is opened as often as one likes, and written only where a command is done: each of its blocks is a thing, and the sync.
func TestThings(t *testing.T) {
	d := disk.New(30)
	d.Fail(2)
	e := created(t, d, tenth)
	for _, x := range []struct {
		text   string
		things int
	}{{"tick", 2}, {"sale s1 EUR - 1000 ann:1 bob:1", 3}, {"sale s1 EUR - 1000 ann:1 bob:1", 0}, {"refund r1 s8 1", 0}, {"refund r1 s1 1", 2}} {
		d.Fail(x.things)
		opened(t, d)
		if _, _, f := e.Do(parsed(t, x.text)); f == api.ErrCrash {
			t.Fatal(x.text)
		}
		if d.Dead() || d.Sync() != api.ErrCrash {
			t.Fatalf("%s: fewer things", x.text)
		}
		d.Restart()
		e = opened(t, d)
	}
}

// On a nil engine.

func checkNil(t *testing.T, e *Engine) {
	t.Helper()
	for _, c := range append(commands(t, story), api.Command{}) {
		if r, l, f := e.Do(c); r != (state.Reply{}) || l != nil || f != api.ErrArg {
			t.Fatal(r, l, f)
		}
	}
	if e.Records() != 0 || e.Room() != 0 || e.Now() != 0 || e.Clone() != nil || e.Balances() != nil || e.Lots() != nil || e.Payouts() != nil {
		t.Fatal("a nil engine has something")
	}
	if look(e) != look((*state.State)(nil)) {
		t.Fatal(look(e))
	}
}

func TestNilEngine(t *testing.T) {
	checkNil(t, nil)
	e, _ := Create(disk.New(0), tenth)
	checkNil(t, e)
	e, _ = Open(disk.New(5))
	checkNil(t, e)
	// One that was neither created nor opened has no disk.
	checkNil(t, &Engine{})
}

func TestExample(t *testing.T) {
	d := disk.New(12)
	e := created(t, d, tenth)
	if r, _, f := e.Do(parsed(t, "sale s1 EUR - 1000 ann:1")); f != api.OK || r.N != 100 {
		t.Fatal(r, f)
	}
	x := opened(t, d)
	if left, ok := x.Left("s1"); !ok || !slices.Equal(left, []int64{100, 0, 900}) || x.Balance(book.Available, "ann", "EUR") != 900 || x.Records() != 1 {
		t.Fatal(left, ok)
	}
}
