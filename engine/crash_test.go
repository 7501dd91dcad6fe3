package engine

import (
	"fmt"
	"math/rand/v2"
	"slices"
	"testing"

	"souk/api"
	"souk/disk"
	"souk/state"
)

// P20.2, and ErrCrash.

// crashed does a command in which the power fails: nothing is done, and from now on nothing but ErrCrash is told.
func crashed(t *testing.T, e *Engine, d *disk.Disk, c api.Command, fuse int) {
	t.Helper()
	d.Fail(fuse)
	refused(t, e, c, api.ErrCrash)
	if !d.Dead() {
		t.Fatal("alive")
	}
	refused(t, e, c, api.ErrCrash)
}

// checkOpened opens a disk, whose power failed in a command, twice: the command was done, if it stands whole, else not. That is how the market goes on.
func checkOpened(t *testing.T, d *disk.Disk, before, behind *market) (*Engine, *market) {
	t.Helper()
	m := before
	if l := behind.blocks(); len(l) <= d.Len() && slices.Equal(d.All()[:len(l)], l) {
		m = behind
	}
	e := opened(t, d)
	check(t, e, d, m)
	x := opened(t, d)
	check(t, x, d, m)
	return x, m.clone()
}

// goOn does some more on an engine, and opens it again.
func goOn(t *testing.T, e *Engine, d *disk.Disk, m *market, c api.Command) {
	t.Helper()
	for _, c := range []api.Command{c, {Kind: "tick"}, c, {Kind: "hold", ID: "x", About: "bob"}} {
		if size(c) <= e.Room() {
			do(t, e, m, c)
		}
	}
	check(t, e, d, m)
	check(t, opened(t, d), d, m)
}

// started is a market, with a sale and eight ticks, and one in which a command was done.
func started(t *testing.T, c api.Command) (*market, *market) {
	t.Helper()
	before := newMarket(t, tenth)
	before.do(parsed(t, "sale s1 EUR - 1000 ann:3 bob:1"))
	for range 8 {
		before.do(parsed(t, "tick"))
	}
	behind := before.clone()
	if !behind.adds(c) {
		t.Fatal("no command that is done")
	}
	behind.do(c)
	return before, behind
}

// In a command of one block the power fails ahead of its write, and of its sync; each number of its bytes stands.
func TestCrashInACommandOfOneBlock(t *testing.T) {
	for _, text := range []string{"tick", "refund r1 s1 100", "chargeback c1 s1 100", "hold h1 ann", "free f1 ann", "sale s2 EUR - 5 a:1"} {
		c := parsed(t, text)
		before, behind := started(t, c)
		for fuse := range 2 {
			for keep := range 256 {
				if keep > 66 && keep < 254 {
					continue
				}
				d := diskOf(t, before.blocks(), len(before.blocks())+4)
				e := opened(t, d)
				crashed(t, e, d, c, fuse)
				checkState(t, e, before)
				d.Restart(uint8(keep))
				x, m := checkOpened(t, d, before, behind)
				// The last bytes of a block may be 0, as they were.
				if done := x.Records() == len(behind.records)-1; done && keep < 60 || !done && keep >= api.Block {
					t.Fatalf("%s: %d records, as %d bytes stand", text, x.Records(), keep)
				}
				goOn(t, x, d, m, c)
			}
		}
	}
}

// In one of more blocks likewise, with each pair of numbers, or some of them.
func TestCrashInACommandOfMoreBlocks(t *testing.T) {
	for text, step := range map[string]uint8{
		"sale s2 EUR books 1000 ann:3 bob:1": 8,
		"reply 1/EUR/ann accepted 1":         8,
		"sale s2 EUR books 1000 p1234567890123456789:1 p1234567890123456788:1 ann:3 bob:1":      16,
		"sale s2 EUR - 1000 p123456789012345678:1 p123456789012345677:1 ann:3 bob:1 cy:4 dan:5": 16,
	} {
		c := parsed(t, text)
		before, behind := started(t, c)
		for fuse := range size(c) + 1 {
			for keep := uint8(0); keep <= api.Block; keep += step {
				for more := uint8(0); more <= api.Block; more += step {
					for _, third := range []uint8{30, 64} {
						d := diskOf(t, before.blocks(), len(before.blocks())+size(c)+2)
						e := opened(t, d)
						crashed(t, e, d, c, fuse)
						checkState(t, e, before)
						d.Restart(keep, more, third, 64)
						x, m := checkOpened(t, d, before, behind)
						goOn(t, x, d, m, c)
					}
				}
			}
		}
	}
}

// A disk of just enough blocks for the command in which the power fails.
func TestCrashInTheLastBlock(t *testing.T) {
	for _, text := range []string{"tick", "sale s2 EUR books 1000 ann:3 bob:1"} {
		c := parsed(t, text)
		before, behind := started(t, c)
		for fuse := range size(c) + 1 {
			for _, keep := range [][]uint8{nil, {64}, {0, 64}, {64, 63}, {64, 64}} {
				d := diskOf(t, before.blocks(), len(behind.blocks()))
				crashed(t, opened(t, d), d, c, fuse)
				d.Restart(keep...)
				x, m := checkOpened(t, d, before, behind)
				if x.Room() == 0 {
					refused(t, x, parsed(t, "tick"), api.ErrFull)
				}
				goOn(t, x, d, m, c)
			}
		}
	}
}

// While an engine is created: there is none, or it is there whole.
func TestCrashInCreate(t *testing.T) {
	for _, text := range []string{tenth, reserved} {
		need := len(laid(text))
		m := newMarket(t, text)
		for fuse := range need + 1 {
			for keep := range uint8(65) {
				for more := uint8(0); more <= api.Block; more += 8 {
					if need == 1 && more > 0 {
						break
					}
					d := disk.New(need + 2)
					d.Fail(fuse)
					notCreated(t, d, text, api.ErrCrash)
					notCreated(t, d, text, api.ErrCrash)
					notOpened(t, d, api.ErrCrash)
					d.Restart(keep, more)
					checkCreated(t, d, text, m.clone())
				}
			}
		}
	}
}

// checkCreated looks what became of a disk in whose Create the power failed, and goes on with it.
func checkCreated(t *testing.T, d *disk.Disk, text string, m *market) {
	t.Helper()
	l := laid(text)
	if !slices.Equal(d.All()[:len(l)], l) {
		notOpened(t, d, api.ErrNone)
		checkEmpty(t, d)
		check(t, created(t, d, text), d, m)
	}
	notCreated(t, d, text, api.ErrTwice)
	e := opened(t, d)
	check(t, e, d, m)
	goOn(t, e, d, m, api.Command{Kind: "tick"})
}

// While it is opened, which clears what stands of a command: at each thing, with some of what is pending standing.
func TestCrashInOpen(t *testing.T) {
	keeps := [][]uint8{nil, {1}, {40, 64}, {64, 0, 64}, {60, 61, 62, 63}, {64, 64, 64, 64}}
	for _, text := range []string{"tick", "sale s2 EUR books 1000 ann:3 bob:1", "sale s2 EUR books 1000 p1234567890123456789:1 p1234567890123456788:1 ann:3 bob:1"} {
		c := parsed(t, text)
		before, behind := started(t, c)
		for _, stands := range [][]uint8{{30}, {63}, {64}, {0, 64}, {0, 64, 64}, {64, 64}, {64, 64, 63}, {50, 64, 64}, {64, 64, 64}} {
			for fuse := 0; ; fuse++ {
				dead := 0
				for _, keep := range keeps {
					d := diskOf(t, before.blocks(), len(before.blocks())+5)
					crashed(t, opened(t, d), d, c, size(c))
					d.Restart(stands...)
					was, _ := checkOpened(t, restarted(t, d), before, behind)
					d.Fail(fuse)
					if x, f := Open(d); f == api.ErrCrash && x == nil && d.Dead() {
						dead++
						notOpened(t, d, api.ErrCrash)
						notCreated(t, d, tenth, api.ErrCrash)
					} else if f != api.OK {
						t.Fatal(f)
					}
					d.Restart(keep...)
					x, m := checkOpened(t, d, before, behind)
					if look(x) != look(was) {
						t.Fatal("another one is opened")
					}
					goOn(t, x, d, m, c)
				}
				if dead == 0 {
					break
				}
			}
		}
	}
}

// restarted is another disk, on which stands what does on one.
func restarted(t *testing.T, d *disk.Disk) *disk.Disk {
	t.Helper()
	return diskOf(t, d.All(), d.Len())
}

// A dead disk is told ahead of all else, of each command, and though there is no room.
func TestCrashIsToldFirst(t *testing.T) {
	m := newMarket(t, reserved)
	for _, c := range commands(t, story) {
		m.do(c)
	}
	for _, more := range []int{0, 30} {
		d := diskOf(t, m.blocks(), len(m.blocks())+more)
		e := opened(t, d)
		deadly(t, d)
		for _, x := range wrongCommands() {
			refused(t, e, x.c, api.ErrCrash)
		}
		for _, x := range afterwards {
			refused(t, e, parsed(t, x.text), api.ErrCrash)
		}
		for _, c := range commands(t, story) {
			refused(t, e, c, api.ErrCrash)
		}
		checkState(t, e, m)
		if e.Room() != more || !slices.Equal(d.All()[:len(m.blocks())], m.blocks()) {
			t.Fatal("changed")
		}
		d.Restart()
		check(t, opened(t, d), d, m)
	}
}

// Each command of a story fails at first, at each of its things, and is done then, or was.
func TestCrashInEachCommand(t *testing.T) {
	for seed := range uint64(12) {
		r := rand.New(rand.NewPCG(seed, 1))
		d := disk.New(100)
		e, m := created(t, d, reserved), newMarket(t, reserved)
		for _, c := range commands(t, story) {
			if !m.adds(c) {
				do(t, e, m, c)
				continue
			}
			behind := m.clone()
			behind.do(c)
			crashed(t, e, d, c, r.IntN(size(c)+1))
			d.Restart(anyKeep(r, 4)...)
			e, m = checkOpened(t, d, m, behind)
			if e.Records() < len(behind.records)-1 {
				do(t, e, m, c)
			}
			check(t, e, d, m)
		}
	}
}

func anyKeep(r *rand.Rand, n int) []uint8 {
	keep := make([]uint8, n)
	for i := range keep {
		keep[i] = []uint8{0, 1, 30, 63, 64, 64, 64, 64, 255, uint8(r.IntN(65))}[r.IntN(10)]
	}
	return keep
}

func anyOf[T any](r *rand.Rand, l ...T) T { return l[r.IntN(len(l))] }

// anyCommand is one of which much can be done, some has an error, and some was told.
func anyCommand(r *rand.Rand, m *market) api.Command {
	sale, other := anyOf(r, "s0", "s1", "s2", "s3", "x"), anyOf(r, "r1", "r2", "c1", "c2", "v1", "h1", "h2", "f1", fmt.Sprint(r.IntN(90)), fmt.Sprint(r.IntN(90)))
	party, amount := anyOf(r, parties...), anyOf(r, 1, 7, 50, 200, 1000, 1000, 50000, r.Int64N(3000))
	switch r.IntN(12) {
	case 0, 1:
		var shares []api.Share
		for range 1 + r.IntN(3) {
			shares = append(shares, api.Share{Party: anyOf(r, parties...), Weight: r.Int64N(4)})
		}
		return api.Command{Kind: "sale", ID: sale, Currency: anyOf(r, "EUR", "EUR", "USD", "eur"), Category: anyOf(r, "", "books"), Amount: amount, Shares: shares}
	case 2:
		return api.Command{Kind: "refund", ID: other, About: sale, Amount: amount}
	case 3:
		return api.Command{Kind: "chargeback", ID: other, About: sale, Amount: amount}
	case 4:
		return api.Command{Kind: "reverse", ID: other, About: anyOf(r, "c1", "c2", "r1", fmt.Sprint(r.IntN(90)))}
	case 5:
		return api.Command{Kind: anyOf(r, "hold", "free", "free"), ID: other, About: party}
	case 6, 7, 8:
		p := m.s.Payouts()
		if len(p) == 0 {
			return api.Command{Kind: "reply", About: "1/EUR/ann", Category: "accepted", Amount: 1}
		}
		x := p[r.IntN(len(p))]
		return api.Command{Kind: "reply", About: x.Key, Category: anyOf(r, "accepted", "accepted", "declined", "unknown", "busy"), Amount: max(0, x.Attempt-r.Int64N(2))}
	default:
		return api.Command{Kind: "tick"}
	}
}

// two is two engines, on two disks: all is asked of both, and both tell the same (P2).
type two struct {
	disks   [2]*disk.Disk
	engines [2]*Engine
}

func (x *two) do(t *testing.T, c api.Command) (state.Reply, []api.Request, api.Errno) {
	t.Helper()
	r, l, f := x.engines[0].Do(c)
	r2, l2, f2 := x.engines[1].Do(c)
	if r != r2 || !slices.Equal(l, l2) || f != f2 {
		t.Fatalf("Do(%v): %v %v %d, and %v %v %d", c, r, l, f, r2, l2, f2)
	}
	return r, l, f
}

func (x *two) fail(fuse int) {
	for _, d := range x.disks {
		d.Fail(fuse)
	}
}

// open lets the power fail while the disks are opened, till they are.
func (x *two) open(t *testing.T, r *rand.Rand) {
	t.Helper()
	for range 100 {
		x.fail(anyOf(r, -1, 0, 1, 2, 5))
		for i, d := range x.disks {
			e, f := Open(d)
			if f != api.OK && f != api.ErrCrash || (e == nil) != d.Dead() {
				t.Fatal(f)
			}
			x.engines[i] = e
		}
		if (x.engines[0] == nil) != (x.engines[1] == nil) {
			t.Fatal("one is opened, one isn't")
		}
		if x.engines[0] != nil {
			x.fail(-1)
			return
		}
		keep := anyKeep(r, 5)
		for _, d := range x.disks {
			d.Restart(keep...)
		}
	}
	t.Fatal("never opened")
}

// Whatever fails, in any order, again and again.
func TestAnyFailures(t *testing.T) {
	kinds := map[string]int{}
	crashes, both := 0, [2]int{}
	for seed := range uint64(50) {
		r := rand.New(rand.NewPCG(seed, 2))
		blocks := 5 + r.IntN(200)
		x := &two{}
		for i := range x.disks {
			x.disks[i] = disk.New(blocks)
			x.engines[i] = created(t, x.disks[i], reserved)
		}
		m := newMarket(t, reserved)
		for range 250 {
			c := anyCommand(r, m)
			before := m.clone()
			want, asks, e := m.do(c)
			fuse := anyOf(r, -1, -1, -1, -1, -1, 0, 1, 2, 3)
			need := len(m.records) > len(before.records)
			switch {
			case need && size(c) > x.engines[0].Room():
				want, asks, e, m = state.Reply{}, nil, api.ErrFull, before
			case need && fuse >= 0 && fuse <= size(c):
				want, asks, e = state.Reply{}, nil, api.ErrCrash
			}
			x.fail(fuse)
			got, l, f := x.do(t, c)
			if got != want || !slices.Equal(l, asks) || f != e {
				t.Fatalf("Do(%v): %v %v %d, not %v %v %d", c, got, l, f, want, asks, e)
			}
			if f == api.OK {
				kinds[c.Kind]++
			}
			x.fail(-1)
			if f == api.ErrCrash {
				crashes++
				checkState(t, x.engines[0], before)
				keep := anyKeep(r, 4)
				for _, d := range x.disks {
					d.Restart(keep...)
				}
				x.open(t, r)
				was := len(m.records)
				_, m = checkOpened(t, x.disks[0], before, m)
				both[was-len(m.records)]++
			}
			one := r.IntN(2)
			check(t, x.engines[one], x.disks[one], m)
			if r.IntN(40) == 0 {
				x.open(t, r)
			}
		}
	}
	if len(kinds) != 8 || kinds["reverse"] < 20 || crashes < 500 || both[0] < 100 || both[1] < 100 {
		t.Fatal(kinds, crashes, both)
	}
}
