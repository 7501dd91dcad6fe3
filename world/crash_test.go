package world

import (
	"fmt"
	"math"
	"slices"
	"testing"

	"souk/api"
	"souk/attempt"
	"souk/book"
	"souk/command"
	"souk/disk"
	"souk/gate"
	"souk/state"
)

// P21.1: the power.

// eve's replies have two blocks, those of the others one.
const eve = "eve456789012345"

// busy is a world in whose next step much is done: a reply is told late, a tick asks to pay four parties, four replies are told at once, and one is told late.
func busy(t *testing.T) (*pair, Step) {
	t.Helper()
	p := begin(t, 80, "tier 0 0%;")
	p.all(t, "sale s1 EUR - 500 cy:1")
	p.ticks(t, 8, gate.DeclineLate)
	p.all(t, "sale s2 EUR - 600 ann:1 bob:2 "+eve+":3", "hold h1 x")
	p.ticks(t, 7, gate.Lost)
	if p.w.Gate().Waiting() < 1 || p.w.Engine().Now() != 15 {
		t.Fatal(p.w.Gate().Waiting())
	}
	return p, late("tick", 0, gate.Accept, gate.AcceptTwice, gate.AcceptLate, gate.Decline)
}

// parts is what is done in that step, each with how many things it has: the late reply, the tick, and the replies.
var parts = []int{2, 2, 2, 2, 2, 3}

// diedIn is in which part the power fails, and how many things of it are done; len(parts), if in none.
func diedIn(fuse uint16) (part, things int) {
	things = int(fuse) - 1
	for part < len(parts) && things >= parts[part] {
		things -= parts[part]
		part++
	}
	return part, things
}

func total() int {
	n := 0
	for _, part := range parts {
		n += part
	}
	return n
}

// expected is what comes of that step, if the power fails in a part.
func expected(part int) Report {
	r := Report{R: state.Reply{Kind: "tick", N: 4}, Heard: []int{0, 1, 1, 2, 3, 4, 5}[part], Crashed: part < len(parts)}
	if part < 2 {
		r.R, r.E = state.Reply{}, api.ErrCrash
	}
	return r
}

// keeps is how many bytes stand: none, some, all, of lists of any length.
func keeps() [][]uint8 {
	return [][]uint8{
		nil, {}, {0}, {1}, {30}, {60}, {63}, {64}, {65}, {255},
		{0, 64}, {30, 64}, {64, 0}, {64, 1}, {64, 30}, {64, 63}, {64, 64}, {255, 255}, {63, 64},
		slices.Repeat([]uint8{64}, 100), slices.Repeat([]uint8{0}, 100),
	}
}

// The power fails at each thing of that step, with any bytes standing.
func TestEachFuse(t *testing.T) {
	for fuse := range uint16(total() + 4) {
		part, things := diedIn(fuse)
		if fuse == 0 {
			part = len(parts)
		}
		for i, keep := range keeps() {
			p, x := busy(t)
			records := p.w.Engine().Records()
			p.expect(t, failing(x, fuse, keep...), expected(part))
			checkDisk(t, p, records, part, things, keep)
			checkGate(t, p, part)
			if i%5 == 0 {
				p.unfused(t)
			}
			// It goes on; ann's is over only as far as she was heard.
			p.ticks(t, 2, gate.Accept)
			p.expect(t, failing(step("hold h2 ann"), 1, 64), Report{E: api.ErrCrash, Crashed: true})
			p.all(t, "hold h2 ann", "free f1 ann", "refund r1 s1 100")
			p.ticks(t, 12)
			if p.balance(book.Paid, "ann") != 100 || p.balance(book.Paid, "bob") != 200 {
				t.Fatal(fuse, keep, look(p.w.Engine()))
			}
		}
	}
}

// checkDisk holds how many commands stand: those ahead of the one in which the power failed; that one, if all its blocks were written, and stand.
func checkDisk(t *testing.T, p *pair, records, part, things int, keep []uint8) {
	t.Helper()
	want := records + part
	if part < len(parts) {
		blocks := parts[part] - 1
		kept := slices.Concat(keep, make([]uint8, blocks))[:blocks]
		switch least := slices.Min(kept); {
		case things < blocks-1 || least < 60:
		case least < api.Block:
			return // a block's last bytes may be 0, as they were: that is left to the model
		default:
			want++
		}
	}
	if p.w.Engine().Records() != want {
		t.Fatalf("%d records, not %d: died in %d, behind %d things, with %v", p.w.Engine().Records(), want, part, things, keep)
	}
}

// checkGate: it is asked, if the tick was done, whatever failed of the replies; and what was to be told late is so no more.
func checkGate(t *testing.T, p *pair, part int) {
	t.Helper()
	l := p.w.Gate().Records()
	if part < 2 {
		if len(l) != 1 || p.w.Gate().Waiting() != 0 {
			t.Fatal(l, p.w.Gate().Waiting())
		}
		return
	}
	want := []gate.Record{
		{Key: "1/EUR/cy", Party: "cy", Currency: "EUR", Amount: 500},
		{Key: "2/EUR/ann", Party: "ann", Currency: "EUR", Amount: 100, Moved: true},
		{Key: "2/EUR/bob", Party: "bob", Currency: "EUR", Amount: 200, Moved: true},
		{Key: "2/EUR/cy", Party: "cy", Currency: "EUR", Amount: 500, Moved: true},
		{Key: "2/EUR/" + eve, Party: eve, Currency: "EUR", Amount: 300},
	}
	if !slices.Equal(l, want) || p.w.Gate().Waiting() != 1 {
		t.Fatal(l, p.w.Gate().Waiting())
	}
}

// What was heard ahead of the failing is done, what comes behind it isn't.
func TestWhatIsHeardTillThePowerFails(t *testing.T) {
	for fuse := uint16(1); int(fuse) <= total(); fuse++ {
		part, _ := diedIn(fuse)
		p, x := busy(t)
		p.do(t, failing(x, fuse))
		is := func(key, want string) {
			t.Helper()
			for _, y := range p.w.Engine().Payouts() {
				if y.Key == key && y.State != want {
					t.Fatalf("fuse %d: %v, not %s", fuse, y, want)
				}
			}
		}
		for at, key := range []string{"1/EUR/cy", "", "2/EUR/ann", "2/EUR/bob", "", "2/EUR/" + eve} {
			switch {
			case key == "":
			case part <= at && at == 0:
				if l := p.w.Engine().Payouts(); l[0].Over() {
					t.Fatal(l)
				}
			case part <= at:
				is(key, attempt.Asked)
			case at == 0 || key == "2/EUR/"+eve:
				is(key, attempt.Back)
			default:
				is(key, attempt.Paid)
			}
		}
		if now := p.w.Engine().Now(); now != 15 && part < 2 || now != 16 && part >= 2 {
			t.Fatal(fuse, now)
		}
	}
}

// If the power failed of what was told late, the command is told just that: not its own error, nor what it was told.
func TestCommandsOfADeadDisk(t *testing.T) {
	for _, c := range []api.Command{{}, {Kind: "tick", ID: "x"}, parsed("tick"), parsed("refund r1 s9 1"), parsed("refund r1 s1 99999"), parsed("sale s1 EUR - 500 cy:1"), parsed("reply 1/EUR/cy accepted 1"), parsed("reply 9/EUR/cy accepted 1")} {
		for fuse := uint16(1); fuse <= 2; fuse++ {
			for _, keep := range keeps() {
				p, _ := busy(t)
				p.expect(t, failing(Step{C: c, Choices: []uint8{gate.Accept}}, fuse, keep...), Report{E: api.ErrCrash, Crashed: true})
				if p.w.Gate().Waiting() != 0 || len(p.w.Gate().Records()) != 1 {
					t.Fatal(p.w.Gate().Records())
				}
			}
		}
	}
}

// A command of no thing burns no fuse down; that fuse is none of the next step's.
func TestFuseThatDoesNotBurnDown(t *testing.T) {
	for _, fuse := range []uint16{1, 2, 3, 4, 5, 100, 32767, 32768, 65535} {
		p := begin(t, 60, tenth)
		p.all(t, "sale s1 EUR - 1000 ann:1")
		for text, want := range map[string]Report{"refund r1 s9 1": {E: api.ErrNone}, "hold s1 ann": did("sale", 100, 0), "refund r1 s1 9999": {E: api.ErrMore}} {
			p.expect(t, failing(step(text), fuse, 1, 2, 3), want)
			p.unfused(t)
		}
		x := failing(step("tick"), fuse)
		if fuse <= 2 {
			p.expect(t, x, Report{E: api.ErrCrash, Crashed: true})
		} else {
			p.expect(t, x, did("tick", 0, 0))
		}
		p.unfused(t)
		p.ticks(t, 20)
		if p.balance(book.Paid, "ann") != 900 {
			t.Fatal(look(p.w.Engine()))
		}
	}
}

// A command of several blocks, of which any bytes stand.
func TestBlocksThatStand(t *testing.T) {
	const text = "sale s2 EUR books 1000 ann:1 bob:2 cy:3 a/b:4 p1234567890123456789:5 dan:6 eve:7 fay:8"
	record, _ := command.Encode(parsed(text))
	blocks := len(laid(record))
	if blocks != 4 {
		t.Fatal(blocks)
	}
	bytes := []uint8{0, 9, 63, 64}
	for fuse := uint16(1); int(fuse) <= blocks+1; fuse++ {
		for row := range 4 * 4 * 4 * 4 {
			keep := []uint8{bytes[row%4], bytes[row/4%4], bytes[row/16%4], bytes[row/64], 64}
			p := begin(t, 30, tenth)
			p.all(t, "sale s1 EUR - 1000 ann:3 bob:1", "tick")
			p.expect(t, failing(step(text), fuse, keep...), Report{E: api.ErrCrash, Crashed: true})
			whole := int(fuse) >= blocks && slices.Min(keep) == 64
			if _, stands := p.w.Engine().Told("s2"); whole && !stands || !whole && stands && slices.Min(keep) < 60 {
				t.Fatal(fuse, keep, stands)
			}
			p.expect(t, step(text), did("sale", 100, 0))
			p.all(t, "tick", "refund r1 s2 1000")
		}
	}
}

// It fails in step behind step, and goes on behind each of them, as if all had been asked again till it was done.
func TestFailingAgainAndAgain(t *testing.T) {
	list := []string{"sale s1 EUR - 1000 ann:3 bob:1", "refund r1 s1 100", "chargeback c1 s1 300", "hold h1 cy", "reverse v1 c1", "sale s2 EUR books 7000 cy:1 bob:1", "free f1 cy"}
	for _, fuse := range []uint16{1, 2} {
		for _, keep := range []uint8{0, 40, 64} {
			p, q := begin(t, 99, reserved), begin(t, 99, reserved)
			for _, text := range list {
				for range 3 {
					p.do(t, failing(step(text), fuse, keep))
				}
				p.do(t, step(text))
				q.do(t, step(text))
				if look(p.w.Engine()) != look(q.w.Engine()) {
					t.Fatal(look(p.w.Engine()), look(q.w.Engine()))
				}
			}
		}
	}
}

// Where there is no room the power has nothing to fail in; and it fails in the last block.
func TestFailingOnAFullDisk(t *testing.T) {
	for _, keep := range []uint8{0, 20, 64} {
		p := begin(t, 4, tenth)
		p.all(t, "tick", "tick")
		p.expect(t, failing(step("sale s1 EUR - 1000 ann:1 bob:1"), 1, keep), Report{E: api.ErrFull})
		p.expect(t, failing(step("tick"), 1, keep), Report{E: api.ErrCrash, Crashed: true})
		if keep < 64 {
			p.expect(t, failing(step("tick"), 2, keep), Report{E: api.ErrCrash, Crashed: true})
			p.expect(t, step("tick"), did("tick", 0, 0))
		}
		p.expect(t, failing(step("tick"), 1, keep), Report{E: api.ErrFull})
		if p.w.Engine().Now() != 3 || p.w.Engine().Room() != 0 {
			t.Fatal(p.w.Engine().Now())
		}
	}
}

// A payout whose tick stands, though the power failed in it, was never asked for: it is queried, then asked.
func TestTickThatStands(t *testing.T) {
	p := begin(t, 60, tenth)
	p.all(t, "sale s1 EUR - 1000 ann:1")
	p.ticks(t, 7)
	p.expect(t, failing(step("tick"), 2, 64), Report{E: api.ErrCrash, Crashed: true})
	if l := p.w.Engine().Payouts(); len(l) != 1 || l[0].State != attempt.Asked || len(p.w.Gate().Records()) != 0 {
		t.Fatal(l)
	}
	p.expect(t, step("tick"), did("tick", 0, 0))
	p.expect(t, step("tick"), did("tick", 1, 1)) // unknown
	p.expect(t, step("tick"), did("tick", 1, 1)) // paid
	if p.balance(book.Paid, "ann") != 900 || len(p.w.Gate().Records()) != 1 {
		t.Fatal(look(p.w.Engine()))
	}
}

// The engine that is opened is that of the disk, on which it goes on.
func TestOpenedEngine(t *testing.T) {
	p, x := busy(t)
	p.do(t, failing(x, 9, 64, 64))
	d := p.w.disk
	p.all(t, "tick", "hold h2 ann")
	if p.w.disk != d || p.w.Engine().Room() != free(d) {
		t.Fatal(p.w.Engine().Room(), free(d))
	}
	if r := p.w.Do(Step{C: api.Command{}, Late: math.MinInt}); r != (Report{E: api.ErrArg}) {
		t.Fatal(r)
	}
}

// free is how many blocks are empty.
func free(d *disk.Disk) int {
	n := 0
	for _, b := range d.All() {
		if b == disk.Empty() {
			n++
		}
	}
	return n
}

// many is a world whose next tick asks to pay so many parties, of each of whom a reply has two blocks: three things.
func many(t *testing.T, n int) *World {
	t.Helper()
	w := made(t, api.MaxBlocks, "tier 0 0%;")
	for i := 0; i < n; i += api.MaxShares {
		c := api.Command{Kind: "sale", ID: fmt.Sprint("s", i), Currency: "EUR", Amount: int64(100 * api.MaxShares)}
		for j := range api.MaxShares {
			c.Shares = append(c.Shares, api.Share{Party: fmt.Sprintf("p%019d", i+j), Weight: 1})
		}
		if r := w.Do(Step{C: c, Late: -1}); r != did("sale", 0, 0) {
			t.Fatal(r)
		}
	}
	for range 7 {
		w.Do(step("tick"))
	}
	return w
}

// The longest fuses burn down, each at its thing; a step without a fuse has none, however much is done in it.
func TestLongFuses(t *testing.T) {
	for _, x := range []struct {
		parties int
		fuse    uint16
	}{{5504, 1 << 15}, {10928, 1<<16 - 1}, {10928, 0}} {
		w := many(t, x.parties)
		want := Report{R: state.Reply{Kind: "tick", N: int64(x.parties)}, Heard: 2 * x.parties}
		if x.fuse > 0 {
			want.Heard, want.Crashed = (int(x.fuse)-1-2)/3, true
		}
		if r := w.Do(failing(step("tick", gate.AcceptTwice), x.fuse, 64)); r != want {
			t.Fatal(x, r)
		}
		if l := w.Gate().Records(); len(l) != x.parties || !l[x.parties-1].Moved {
			t.Fatal(x, len(l))
		}
		if w.disk.Dead() || w.Engine().Now() != 8 || w.Engine().Balance(book.Paid, w.Gate().Records()[0].Party, "EUR") != 100 {
			t.Fatal(x)
		}
	}
}
