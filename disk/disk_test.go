package disk

import (
	"math"
	"math/rand/v2"
	"slices"
	"strings"
	"testing"

	"souk/api"
)

var (
	zeros = strings.Repeat("\x00", 64)
	as    = strings.Repeat("a", 64)
	bs    = strings.Repeat("b", 64)
	cs    = strings.Repeat("c", 64)
)

// noSizes are some that data of a block may not have.
var noSizes = []int{0, 1, 2, 32, 63, 65, 66, 127, 128, 256 + 64, 65536 + 64}

func anyBytes(r *rand.Rand) string {
	l := make([]byte, 64)
	for i := range l {
		l[i] = byte(r.Uint32())
	}
	return string(l)
}

// made is a disk with what stands in its blocks.
func made(t *testing.T, l ...string) *Disk {
	t.Helper()
	d := New(len(l))
	for at, s := range l {
		write1(t, d, at, s, api.OK)
	}
	sync1(t, d, api.OK)
	checkAll(t, d, l...)
	return d
}

func write1(t *testing.T, d *Disk, at int, data string, want api.Errno) {
	t.Helper()
	if e := d.Write(at, data); e != want {
		t.Fatalf("Write(%d, %d bytes): %d, not %d", at, len(data), e, want)
	}
}

func sync1(t *testing.T, d *Disk, want api.Errno) {
	t.Helper()
	if e := d.Sync(); e != want {
		t.Fatalf("Sync: %d, not %d", e, want)
	}
}

func checkRead(t *testing.T, d *Disk, at int, want string, e api.Errno) {
	t.Helper()
	// Twice: a read is not heard of by the disk.
	for range 2 {
		if s, f := d.Read(at); s != want || f != e {
			t.Fatalf("Read(%d): %q, %d, not %q, %d", at, s, f, want, e)
		}
	}
}

func checkAll(t *testing.T, d *Disk, want ...string) {
	t.Helper()
	for range 2 {
		if l := d.All(); !slices.Equal(l, want) {
			t.Fatalf("All: %q, not %q", l, want)
		}
	}
}

func checkDead(t *testing.T, d *Disk, want bool) {
	t.Helper()
	for range 2 {
		if d.Dead() != want {
			t.Fatalf("Dead: not %t", want)
		}
	}
}

// P5.1: blocks of bytes 0, and how many there are.

func TestEmpty(t *testing.T) {
	for range 2 {
		if Empty() != zeros {
			t.Errorf("%q", Empty())
		}
	}
}

func TestNew(t *testing.T) {
	for _, blocks := range []int{0, 1, 2, 3, 255, 256, 1000, 65535, 65536} {
		d := New(blocks)
		if d == nil || d.Len() != blocks || d.Dead() {
			t.Fatal(blocks)
		}
		checkAll(t, d, slices.Repeat([]string{zeros}, blocks)...)
		for _, at := range []int{0, blocks / 2, blocks - 1} {
			if blocks > 0 {
				checkRead(t, d, at, zeros, api.OK)
			}
		}
		checkRead(t, d, blocks, "", api.ErrNone)
		write1(t, d, blocks, as, api.ErrNone)
		sync1(t, d, api.OK)
	}
}

func TestNewOfNone(t *testing.T) {
	for _, blocks := range []int{-1, -2, -65536, math.MinInt32, math.MinInt, 65537, 65538, 131072, math.MaxInt32, 1 << 32, 1<<32 + 1, math.MaxInt} {
		if New(blocks) != nil {
			t.Error(blocks)
		}
	}
}

// A new disk has no fuse.
func TestNewIsWithoutFuse(t *testing.T) {
	d := New(1)
	for range 1000 {
		write1(t, d, 0, as, api.OK)
		sync1(t, d, api.OK)
	}
}

// Each disk has blocks of its own.
func TestDisksAreApart(t *testing.T) {
	d, f := New(2), New(2)
	d.Fail(3)
	write1(t, d, 0, as, api.OK)
	sync1(t, d, api.OK)
	write1(t, d, 1, bs, api.OK)
	for range 5 {
		write1(t, f, 1, cs, api.OK)
	}
	checkRead(t, f, 0, zeros, api.OK)
	checkRead(t, d, 1, bs, api.OK)
	sync1(t, d, api.ErrCrash)
	checkDead(t, f, false)
	sync1(t, f, api.OK)
	checkAll(t, f, zeros, cs)
	checkAll(t, d, as, zeros)
}

// P5.1: Read, Write, Sync of a disk that doesn't fail.

func TestReadTellsTheLastWrite(t *testing.T) {
	d := made(t, as, bs, cs)
	write1(t, d, 1, cs, api.OK)
	checkRead(t, d, 1, cs, api.OK)
	write1(t, d, 2, as, api.OK)
	write1(t, d, 1, as, api.OK)
	checkRead(t, d, 0, as, api.OK)
	checkRead(t, d, 1, as, api.OK)
	checkRead(t, d, 2, as, api.OK)
	checkAll(t, d, as, bs, cs)
	sync1(t, d, api.OK)
	checkAll(t, d, as, as, as)
	write1(t, d, 0, bs, api.OK)
	checkRead(t, d, 0, bs, api.OK)
	checkRead(t, d, 1, as, api.OK)
	checkAll(t, d, as, as, as)
}

func TestSyncKeepsTheOrder(t *testing.T) {
	d := New(2)
	for _, s := range []string{as, bs, cs, bs} {
		write1(t, d, 0, s, api.OK)
		write1(t, d, 1, cs, api.OK)
	}
	checkAll(t, d, zeros, zeros)
	sync1(t, d, api.OK)
	checkAll(t, d, bs, cs)
	checkRead(t, d, 0, bs, api.OK)
	sync1(t, d, api.OK)
	checkAll(t, d, bs, cs)
}

// Behind a sync nothing is pending: no restart takes what stands back, and what is kept counts anew.
func TestBehindASyncNothingIsPending(t *testing.T) {
	d := New(3)
	write1(t, d, 0, as, api.OK)
	write1(t, d, 1, as, api.OK)
	sync1(t, d, api.OK)
	d.Restart(0, 0)
	checkAll(t, d, as, as, zeros)
	write1(t, d, 0, as, api.OK)
	write1(t, d, 0, cs, api.OK)
	sync1(t, d, api.OK)
	write1(t, d, 1, bs, api.OK)
	write1(t, d, 2, bs, api.OK)
	d.Restart(1, 2)
	checkAll(t, d, cs, "b"+as[1:], "bb"+zeros[2:])
}

// Bytes of all kinds stand as they are, each in its place.
func TestBytesStandAsTheyAre(t *testing.T) {
	l := make([]string, 4)
	for at := range l {
		b := make([]byte, 64)
		for i := range b {
			b[i] = byte(at*64 + i)
		}
		l[at] = string(b)
	}
	d := made(t, l...)
	for at := range l {
		checkRead(t, d, at, l[at], api.OK)
	}
}

func TestTheGreatestDisk(t *testing.T) {
	d := New(65536)
	for at := range 65536 {
		write1(t, d, at, string([]byte{byte(at), byte(at >> 8)})+as[2:], api.OK)
	}
	for at := range 65536 {
		if s, e := d.Read(at); s != string([]byte{byte(at), byte(at >> 8)})+as[2:] || e != api.OK {
			t.Fatal(at, e)
		}
	}
	if slices.ContainsFunc(d.All(), func(s string) bool { return s != zeros }) {
		t.Fatal("it stands")
	}
	sync1(t, d, api.OK)
	for at, s := range d.All() {
		if s != string([]byte{byte(at), byte(at >> 8)})+as[2:] {
			t.Fatal(at)
		}
	}
	write1(t, d, 65536, as, api.ErrNone)
}

// However much is pending, a read is quick.
func TestMuchIsPending(t *testing.T) {
	d := New(2)
	write1(t, d, 0, as, api.OK)
	for range 200000 {
		write1(t, d, 1, bs, api.OK)
		if s, _ := d.Read(0); s != as {
			t.Fatal(s)
		}
	}
	write1(t, d, 1, cs, api.OK)
	checkRead(t, d, 1, cs, api.OK)
	d.Restart(7)
	checkAll(t, d, as[:7]+zeros[7:], zeros)
}

// P5.1: the errors, and their order.

var noPlaces = []int{-1, -2, -64, math.MinInt32, math.MinInt, 3, 4, 64, 65536, math.MaxInt32, 1 << 32, 1<<32 + 1, math.MaxInt}

func TestNoSuchBlock(t *testing.T) {
	d := made(t, as, bs, cs)
	for _, at := range noPlaces {
		checkRead(t, d, at, "", api.ErrNone)
		write1(t, d, at, as, api.ErrNone)
		for _, n := range noSizes {
			write1(t, d, at, strings.Repeat("a", n), api.ErrNone)
		}
	}
	none := New(0)
	checkRead(t, none, 0, "", api.ErrNone)
	write1(t, none, 0, as, api.ErrNone)
	write1(t, none, 0, "", api.ErrNone)
	d.Restart(slices.Repeat([]uint8{64}, 1000)...)
	checkAll(t, d, as, bs, cs)
}

func TestDataOfAnotherSize(t *testing.T) {
	d := made(t, as, bs, cs)
	for _, n := range noSizes {
		for at := range 3 {
			write1(t, d, at, strings.Repeat("x", n), api.ErrArg)
		}
	}
	checkRead(t, d, 0, as, api.OK)
	d.Restart(64, 64, 64, 64)
	checkAll(t, d, as, bs, cs)
}

// A write that may not be isn't pending, and isn't a thing: the fuse is as long as it was.
func TestRefusedWritesAreNoThings(t *testing.T) {
	d := made(t, as, bs, cs)
	d.Fail(1)
	for range 5 {
		write1(t, d, 3, cs, api.ErrNone)
		write1(t, d, 0, "c", api.ErrArg)
	}
	write1(t, d, 0, cs, api.OK)
	// With a fuse of 0 neither kills the disk.
	write1(t, d, -1, cs, api.ErrNone)
	write1(t, d, 0, cs+"c", api.ErrArg)
	checkDead(t, d, false)
	write1(t, d, 1, cs, api.ErrCrash)
	checkDead(t, d, true)
	d.Restart(1, 2, 3, 4)
	checkAll(t, d, "c"+as[1:], "cc"+bs[2:], cs)
}

// Whatever a dead disk is asked, it says so first; and does nothing.
func TestADeadDiskDoesNothing(t *testing.T) {
	d := made(t, as, bs, cs)
	write1(t, d, 1, as, api.OK)
	d.Fail(0)
	sync1(t, d, api.ErrCrash)
	for range 3 {
		for _, at := range append(noPlaces, 0, 1, 2) {
			checkRead(t, d, at, "", api.ErrCrash)
			write1(t, d, at, cs, api.ErrCrash)
			write1(t, d, at, "c", api.ErrCrash)
		}
		sync1(t, d, api.ErrCrash)
		checkDead(t, d, true)
		checkAll(t, d, as, bs, cs)
		if d.Len() != 3 {
			t.Fatal(d.Len())
		}
	}
	// Only the first write was pending.
	d.Restart(10, 64, 64, 64)
	checkAll(t, d, as, as[:10]+bs[10:], cs)
	checkRead(t, d, 1, as[:10]+bs[10:], api.OK)
}

// P5.1: the fuse.

func TestFuse(t *testing.T) {
	for _, n := range []int{0, 1, 2, 3, 10, 300} {
		for _, kind := range []string{"w", "s", "ws", "sw", "wws"} {
			d := New(1)
			d.Fail(n)
			for i := range n {
				if kind[i%len(kind)] == 'w' {
					write1(t, d, 0, as, api.OK)
				} else {
					sync1(t, d, api.OK)
				}
				// These are no things.
				d.Read(0)
				d.Read(5)
				d.All()
				d.Len()
				checkDead(t, d, false)
			}
			if kind[n%len(kind)] == 'w' {
				write1(t, d, 0, bs, api.ErrCrash)
			} else {
				sync1(t, d, api.ErrCrash)
			}
			checkDead(t, d, true)
		}
	}
}

// A fuse alone doesn't kill the disk, not one of 0 either.
func TestAFuseOf0IsNoDeath(t *testing.T) {
	d := made(t, as)
	d.Fail(0)
	checkDead(t, d, false)
	checkRead(t, d, 0, as, api.OK)
	checkAll(t, d, as)
	d.Fail(-1)
	write1(t, d, 0, bs, api.OK)
	checkDead(t, d, false)
}

func TestFuseOfNone(t *testing.T) {
	for _, n := range []int{-1, -2, -65536, math.MinInt32, math.MinInt} {
		d := New(1)
		d.Fail(2)
		write1(t, d, 0, as, api.OK)
		d.Fail(n)
		for range 1000 {
			write1(t, d, 0, as, api.OK)
			sync1(t, d, api.OK)
		}
		checkDead(t, d, false)
	}
}

// The fuse is the one that was told last.
func TestFuseAnew(t *testing.T) {
	d := New(1)
	d.Fail(1)
	write1(t, d, 0, as, api.OK)
	d.Fail(2)
	write1(t, d, 0, as, api.OK)
	sync1(t, d, api.OK)
	checkDead(t, d, false)
	write1(t, d, 0, bs, api.ErrCrash)
	d.Restart()
	for _, n := range []int{math.MaxInt, math.MaxInt32, 1 << 32} {
		d.Fail(n)
		for range 100 {
			write1(t, d, 0, as, api.OK)
		}
	}
	d.Fail(5)
	d.Fail(0)
	sync1(t, d, api.ErrCrash)
	checkDead(t, d, true)
}

// No fuse brings a dead disk to life, till it is restarted.
func TestNoFuseRevives(t *testing.T) {
	for _, n := range []int{-1, 0, 1, 5, math.MaxInt, math.MinInt} {
		d := made(t, as)
		d.Fail(0)
		write1(t, d, 0, bs, api.ErrCrash)
		d.Fail(n)
		checkDead(t, d, true)
		write1(t, d, 0, cs, api.ErrCrash)
		sync1(t, d, api.ErrCrash)
		checkRead(t, d, 0, "", api.ErrCrash)
		d.Restart(3)
		checkAll(t, d, "bbb"+as[3:])
		// And it has none behind that.
		for range 10 {
			write1(t, d, 0, cs, api.OK)
		}
	}
}

// A write with which the disk dies is pending; a sync with which it dies lets nothing stand.
func TestWhatKills(t *testing.T) {
	d := made(t, as, bs)
	d.Fail(1)
	write1(t, d, 1, cs, api.OK)
	write1(t, d, 0, cs, api.ErrCrash)
	checkAll(t, d, as, bs)
	d.Restart(0, 64)
	checkAll(t, d, cs, bs)

	d = made(t, as, bs)
	d.Fail(2)
	write1(t, d, 0, cs, api.OK)
	write1(t, d, 1, cs, api.OK)
	sync1(t, d, api.ErrCrash)
	checkAll(t, d, as, bs)
	d.Restart(5, 6)
	checkAll(t, d, cs[:5]+as[5:], cs[:6]+bs[6:])
}

// P5.1: Restart.

// The chapter's example.
func TestRestartWith2(t *testing.T) {
	d := New(1)
	write1(t, d, 0, as, api.OK)
	d.Restart(2)
	checkAll(t, d, "aa"+zeros[2:])
	checkRead(t, d, 0, "aa"+zeros[2:], api.OK)
}

func TestRestartWithEach(t *testing.T) {
	for keep := range 256 {
		for _, dead := range []bool{false, true} {
			d := made(t, as, bs, cs)
			want := api.OK
			if dead {
				d.Fail(0)
				want = api.ErrCrash
			}
			write1(t, d, 1, cs, want)
			d.Restart(uint8(keep))
			n := min(keep, 64)
			checkDead(t, d, false)
			checkAll(t, d, as, cs[:n]+bs[n:], cs)
			checkRead(t, d, 1, cs[:n]+bs[n:], api.OK)
		}
	}
}

func TestRestartOfMany(t *testing.T) {
	for _, c := range []struct {
		keep []uint8
		want []string
	}{
		{nil, []string{zeros, zeros}},
		{[]uint8{}, []string{zeros, zeros}},
		{[]uint8{0, 0, 0, 0}, []string{zeros, zeros}},
		{[]uint8{64, 64, 64, 64}, []string{cs, bs}},
		{[]uint8{255, 65, 128, 64}, []string{cs, bs}},
		{[]uint8{64}, []string{as, zeros}},
		{[]uint8{0, 64}, []string{zeros, as}},
		{[]uint8{0, 0, 64}, []string{zeros, bs}},
		{[]uint8{0, 0, 0, 64}, []string{cs, zeros}},
		{[]uint8{64, 10, 5, 1}, []string{"c" + as[1:], bs[:5] + as[:5] + zeros[10:]}},
		{[]uint8{1, 5, 10, 64}, []string{cs, bs[:10] + zeros[10:]}},
		{[]uint8{20, 63, 0, 10, 64, 64, 255}, []string{cs[:10] + as[:10] + zeros[20:], as[:63] + "\x00"}},
	} {
		d := New(2)
		write1(t, d, 0, as, api.OK)
		write1(t, d, 1, as, api.OK)
		write1(t, d, 1, bs, api.OK)
		write1(t, d, 0, cs, api.OK)
		keep := slices.Clone(c.keep)
		d.Restart(keep...)
		checkAll(t, d, c.want...)
		checkRead(t, d, 0, c.want[0], api.OK)
		checkRead(t, d, 1, c.want[1], api.OK)
		if !slices.Equal(keep, c.keep) {
			t.Error("what was handed in is changed")
		}
		// Nothing is pending behind that.
		d.Restart(64, 64, 64, 64)
		checkAll(t, d, c.want...)
		sync1(t, d, api.OK)
		checkAll(t, d, c.want...)
	}
}

// What lies behind the list's length is neither read nor written.
func TestRestartBehindTheList(t *testing.T) {
	keep := []uint8{3, 64, 64}
	d := New(1)
	write1(t, d, 0, as, api.OK)
	write1(t, d, 0, bs, api.OK)
	write1(t, d, 0, cs, api.OK)
	d.Restart(keep[:1]...)
	checkAll(t, d, "aaa"+zeros[3:])
	if !slices.Equal(keep, []uint8{3, 64, 64}) {
		t.Error(keep)
	}
}

// What is kept is not kept from one restart to the next.
func TestRestartKeepsNoList(t *testing.T) {
	keep := []uint8{64, 64}
	d := New(1)
	d.Restart(keep...)
	keep[0], keep[1] = 9, 9
	write1(t, d, 0, as, api.OK)
	write1(t, d, 0, bs, api.OK)
	d.Restart()
	checkAll(t, d, zeros)
}

func TestRestartTakesTheFuse(t *testing.T) {
	d := New(1)
	for _, n := range []int{0, 1, 5} {
		d.Fail(n)
		d.Restart()
		for range 20 {
			write1(t, d, 0, as, api.OK)
			sync1(t, d, api.OK)
		}
	}
}

func TestRestartAgainAndAgain(t *testing.T) {
	d := made(t, zeros)
	want := zeros
	for n := range 65 {
		s := strings.Repeat(string(rune('A'+n%26)), 64)
		d.Fail(0)
		write1(t, d, 0, s, api.ErrCrash)
		checkAll(t, d, want)
		d.Restart(uint8(64 - n))
		want = s[:64-n] + want[64-n:]
		checkAll(t, d, want)
	}
	checkDead(t, d, false)
}

// P5.1: of a nil disk, P1.
func TestNilDisk(t *testing.T) {
	var d *Disk
	for range 2 {
		for _, at := range append(noPlaces, 0, 1) {
			checkRead(t, d, at, "", api.ErrArg)
			write1(t, d, at, as, api.ErrArg)
			write1(t, d, at, "", api.ErrArg)
		}
		sync1(t, d, api.ErrArg)
		if d.Len() != 0 || d.Dead() || len(d.All()) != 0 {
			t.Error("something")
		}
		d.Fail(0)
		d.Fail(-1)
		d.Restart()
		d.Restart(1, 2)
	}
}

// What was answered is not shared.
func TestListsAreNew(t *testing.T) {
	d := made(t, as, bs)
	l, m := d.All(), d.All()
	l[0], l[1] = "changed", "changed"
	_ = append(l[:0], cs, cs)
	if !slices.Equal(m, []string{as, bs}) {
		t.Error("shared")
	}
	checkAll(t, d, as, bs)
	write1(t, d, 0, cs, api.OK)
	sync1(t, d, api.OK)
	if m[0] != as {
		t.Error("heard of a write")
	}
}

// plain is a disk by the chapter's words alone, all of it gone through at each call.
type plain struct {
	stands []string
	ats    []int
	datas  []string
	fuse   int // -1: none
	dead   bool
}

func (p *plain) thing() api.Errno {
	if p.fuse == 0 {
		p.dead = true
		return api.ErrCrash
	}
	p.fuse = max(p.fuse-1, -1)
	return api.OK
}

func (p *plain) read(at int) (string, api.Errno) {
	if p.dead {
		return "", api.ErrCrash
	}
	if at < 0 || at >= len(p.stands) {
		return "", api.ErrNone
	}
	s := p.stands[at]
	for i, a := range p.ats {
		if a == at {
			s = p.datas[i]
		}
	}
	return s, api.OK
}

func (p *plain) write(at int, data string) api.Errno {
	if _, e := p.read(at); e != api.OK {
		return e
	}
	if len(data) != 64 {
		return api.ErrArg
	}
	p.ats, p.datas = append(p.ats, at), append(p.datas, data)
	return p.thing()
}

func (p *plain) sync() api.Errno {
	if p.dead || p.thing() != api.OK {
		return api.ErrCrash
	}
	fuse := p.fuse
	p.restart(slices.Repeat([]uint8{64}, len(p.ats)))
	p.fuse = fuse
	return api.OK
}

func (p *plain) restart(keep []uint8) {
	for i, at := range p.ats {
		if i < len(keep) {
			n := min(int(keep[i]), 64)
			p.stands[at] = p.datas[i][:n] + p.stands[at][n:]
		}
	}
	p.ats, p.datas, p.fuse, p.dead = nil, nil, -1, false
}

// Whatever is done, in any order, a disk tells what the chapter's words tell; two disks of which the same is asked tell the same (P2).
func TestAnyCalls(t *testing.T) {
	r := rand.New(rand.NewPCG(1, 2))
	for range 300 {
		blocks := r.IntN(6)
		p := &plain{stands: slices.Repeat([]string{zeros}, blocks), fuse: -1}
		disks := []*Disk{New(blocks), New(blocks)}
		for range 300 {
			anyCall(t, r, p, disks)
		}
	}
}

func anyCall(t *testing.T, r *rand.Rand, p *plain, disks []*Disk) {
	t.Helper()
	at := r.IntN(len(p.stands)+2) - 1
	switch r.IntN(9) {
	case 0, 1, 2, 3:
		data := anyBytes(r)
		if r.IntN(10) == 0 {
			data = data[:r.IntN(64)]
		}
		want := p.write(at, data)
		for _, d := range disks {
			write1(t, d, at, data, want)
		}
	case 4:
		want := p.sync()
		for _, d := range disks {
			sync1(t, d, want)
		}
	case 5:
		n := r.IntN(9) - 1
		if !p.dead {
			p.fuse = n
		}
		for _, d := range disks {
			d.Fail(n)
		}
	case 6:
		if !p.dead && r.IntN(3) > 0 {
			break
		}
		keep := make([]uint8, r.IntN(len(p.ats)+3))
		for i := range keep {
			keep[i] = []uint8{0, 1, 63, 64, 65, 255, uint8(r.IntN(256))}[r.IntN(7)]
		}
		p.restart(keep)
		for _, d := range disks {
			d.Restart(keep...)
		}
	default:
		s, e := p.read(at)
		for _, d := range disks {
			checkRead(t, d, at, s, e)
		}
	}
	for _, d := range disks {
		checkDead(t, d, p.dead)
		checkAll(t, d, p.stands...)
		if d.Len() != len(p.stands) {
			t.Fatal(d.Len())
		}
	}
}
