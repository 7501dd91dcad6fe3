package journal

import (
	"encoding/binary"
	"hash/crc32"
	"math/rand/v2"
	"slices"
	"strings"
	"testing"

	"souk/api"
	"souk/disk"
)

const most = 255 * 49 // bytes of the longest payload

var (
	zeros = strings.Repeat("\x00", 64)
	junk  = strings.Repeat("j", 64)
)

// junks are blocks that are none of a record's, and not empty.
var junks = []string{
	junk, strings.Repeat("\xff", 64), "\x01" + zeros[1:], zeros[1:] + "\x01", zeros[:30] + "x" + zeros[31:],
	"\x01\x00\x00\x00\x00\x01\x01a" + zeros[8:], zeros[:60] + "\x01\x00\x00\x00", strings.Repeat("\x01", 64),
}

// blocksOf are a record's, by chapter 4's words and Go's own library.
func blocksOf(number int, payload string) []string {
	var l []string
	count := (len(payload) + 48) / 49
	for place := 0; payload != ""; place++ {
		n := min(49, len(payload))
		b := binary.LittleEndian.AppendUint32(nil, uint32(number+1))
		b = append(b, byte(place), byte(count), byte(n))
		b = append(b, payload[:n]...)
		b = append(b, make([]byte, 49-n)...)
		b = binary.LittleEndian.AppendUint32(b, crc32.ChecksumIEEE(b))
		l = append(l, string(binary.LittleEndian.AppendUint32(b, uint32(number+1))))
		payload = payload[n:]
	}
	return l
}

// laid are the blocks of records, one behind the other, from number 0 on.
func laid(payloads ...string) []string {
	var l []string
	for number, payload := range payloads {
		l = append(l, blocksOf(number, payload)...)
	}
	return l
}

// filled are blocks, and empty ones behind them, so many in all.
func filled(l []string, n int) []string {
	return append(slices.Clone(l), slices.Repeat([]string{zeros}, n-len(l))...)
}

func anyBytes(r *rand.Rand, n int) string {
	l := make([]byte, n)
	for i := range l {
		l[i] = byte(r.Uint32())
	}
	return string(l)
}

// anyPayloads are some, of sizes up to one.
func anyPayloads(r *rand.Rand, n, size int) []string {
	l := make([]string, n)
	for i := range l {
		l[i] = anyBytes(r, 1+r.IntN(size))
	}
	return l
}

// diskOf is one on which blocks stand.
func diskOf(t *testing.T, l ...string) *disk.Disk {
	t.Helper()
	d := disk.New(len(l))
	for at, b := range l {
		if e := d.Write(at, b); e != api.OK {
			t.Fatal(at, e)
		}
	}
	if e := d.Sync(); e != api.OK {
		t.Fatal(e)
	}
	return d
}

func checkAll(t *testing.T, d *disk.Disk, want ...string) {
	t.Helper()
	if l := d.All(); !slices.Equal(l, want) {
		t.Fatalf("%q stand, not %q", l, want)
	}
}

func checkDead(t *testing.T, d *disk.Disk, want bool) {
	t.Helper()
	if d.Dead() != want {
		t.Fatalf("dead: not %t", want)
	}
}

func checkRecords(t *testing.T, l []string, payloads []string, blocks int) {
	t.Helper()
	before := slices.Clone(l)
	// Twice: what is handed in stays as it was, and the same is answered.
	for range 2 {
		m, n := Records(l...)
		if !slices.Equal(m, payloads) || n != blocks {
			t.Fatalf("%q of %d blocks, not %q of %d", m, n, payloads, blocks)
		}
	}
	if !slices.Equal(l, before) {
		t.Fatal("what was handed in is changed")
	}
}

func checkSize(t *testing.T, j *Journal, records, left int) {
	t.Helper()
	for range 2 {
		if j.Len() != records || j.Left() != left {
			t.Fatalf("%d records, %d left, not %d, %d", j.Len(), j.Left(), records, left)
		}
	}
}

// opened is the journal of a disk whose records are known; behind these all stands empty.
func opened(t *testing.T, d *disk.Disk, payloads ...string) *Journal {
	t.Helper()
	j, l, e := Open(d)
	if j == nil || e != api.OK || !slices.Equal(l, payloads) {
		t.Fatalf("%q, %d, not %q", l, e, payloads)
	}
	blocks := laid(payloads...)
	checkSize(t, j, len(payloads), d.Len()-len(blocks))
	checkAll(t, d, filled(blocks, d.Len())...)
	return j
}

func checkNotOpened(t *testing.T, d *disk.Disk, want api.Errno) {
	t.Helper()
	if j, l, e := Open(d); j != nil || len(l) != 0 || e != want {
		t.Fatalf("%v, %q, %d, not %d", j, l, e, want)
	}
}

func checkAppend(t *testing.T, j *Journal, payload string, want api.Errno) {
	t.Helper()
	if e := j.Append(payload); e != want {
		t.Fatalf("Append of %d bytes: %d, not %d", len(payload), e, want)
	}
}

// checkUntouched tells whether a call was no thing, and leaves a disk without a fuse.
func checkUntouched(t *testing.T, d *disk.Disk, call func()) {
	t.Helper()
	before := d.All()
	d.Fail(0)
	call()
	checkDead(t, d, false)
	d.Restart(slices.Repeat([]uint8{64}, 10)...)
	checkAll(t, d, before...)
}

// P6.1, Records.

func TestExample(t *testing.T) {
	l := []string{strings.Repeat("a", 10), strings.Repeat("b", 60)}
	checkRecords(t, laid(l...), l, 3)
	d := disk.New(5)
	j := opened(t, d)
	checkAppend(t, j, l[0], api.OK)
	checkAppend(t, j, l[1], api.OK)
	checkSize(t, j, 2, 2)
	opened(t, d, l...)
}

func TestRecordsOfNone(t *testing.T) {
	b := blocksOf(0, "hello")[0]
	long := blocksOf(0, strings.Repeat("a", 100))
	for _, l := range [][]string{
		nil, {}, {zeros}, {zeros, zeros}, {""}, {"", b}, {b[:63]}, {b + "\x00"}, {b + b}, {zeros, b}, {junk, b},
		blocksOf(1, "hello"), {blocksOf(1, "hello")[0], b}, long[:2], long[1:], {long[0], long[2], long[1]}, {long[0], b, long[1], long[2]},
		slices.Repeat([]string{zeros}, 65536),
	} {
		checkRecords(t, l, nil, 0)
	}
	for _, s := range junks {
		checkRecords(t, []string{s}, nil, 0)
		checkRecords(t, []string{s, b}, nil, 0)
	}
}

func TestRecordsAsFarAsThereAreSome(t *testing.T) {
	r := rand.New(rand.NewPCG(1, 2))
	for n := range 8 {
		payloads := anyPayloads(r, n, 150)
		l := laid(payloads...)
		next := blocksOf(n, strings.Repeat("n", 120))
		for _, behind := range [][]string{
			nil, {zeros}, {junk}, {""}, {"a"}, blocksOf(n+1, "later"), blocksOf(n+2, "later"), next[:2], next[1:],
			slices.Concat([]string{zeros}, next), slices.Concat(next[:1], []string{zeros}, next[2:]), slices.Concat(next[:2], blocksOf(n+1, "later")),
			{next[0][:63], next[1], next[2]},
		} {
			checkRecords(t, slices.Concat(l, behind), payloads, len(l))
		}
		checkRecords(t, slices.Concat(l, next), append(slices.Clone(payloads), strings.Repeat("n", 120)), len(l)+3)
		if n > 0 {
			checkRecords(t, slices.Concat(l, blocksOf(n-1, "again")), payloads, len(l))
			checkRecords(t, slices.Concat(l, l), payloads, len(l))
		}
	}
}

// Of blocks that are cut somewhere, or of which one is another, the whole records ahead of that are told.
func TestRecordsAheadOfAHole(t *testing.T) {
	r := rand.New(rand.NewPCG(3, 4))
	payloads := anyPayloads(r, 12, 200)
	l := laid(payloads...)
	whole, at := 0, 0
	for n := range l {
		if size := len(blocksOf(whole, payloads[whole])); n == at+size {
			whole, at = whole+1, n
		}
		checkRecords(t, l[:n], payloads[:whole], at)
		for _, b := range []string{zeros, junk, "", l[n][:63], l[n][:40] + zeros[40:], l[(n+1)%len(l)]} {
			m := slices.Clone(l)
			m[n] = b
			checkRecords(t, m, payloads[:whole], at)
		}
		checkRecords(t, slices.Insert(slices.Clone(l), n, zeros), payloads[:whole], at)
	}
}

// What lies behind a list's length is neither read nor written.
func TestRecordsBehindTheList(t *testing.T) {
	payloads := []string{"one", strings.Repeat("t", 60), "three"}
	l := laid(payloads...)
	checkRecords(t, l[:1], payloads[:1], 1)
	checkRecords(t, l[:2], payloads[:1], 1)
	checkRecords(t, l[:3], payloads[:2], 3)
	checkRecords(t, l[:0], nil, 0)
	if !slices.Equal(l, laid(payloads...)) {
		t.Error("it is written")
	}
}

// Payloads of all sizes at blocks' edges, of bytes of all kinds, and more records than a byte, or two, can number.
func TestRecordsOfManySizes(t *testing.T) {
	r := rand.New(rand.NewPCG(5, 6))
	var payloads []string
	for _, size := range []int{1, 48, 49, 50, 97, 98, 99, 49 * 127, 49*127 + 1, 49 * 254, 49*254 + 1, most - 1, most} {
		payloads = append(payloads, anyBytes(r, size), strings.Repeat("\x00", size), strings.Repeat("\xff", size))
	}
	checkRecords(t, laid(payloads...), payloads, len(laid(payloads...)))
	payloads = anyPayloads(r, 66000, 3)
	checkRecords(t, laid(payloads...), payloads, 66000)
}

func TestRecordsAreNew(t *testing.T) {
	l := laid("one", "two")
	m, _ := Records(l...)
	m[0], m[1] = "changed", "changed"
	_ = append(m[:0], "a", "b", "c")
	l[0] = junk
	if n, _ := Records(laid("one", "two")...); !slices.Equal(n, []string{"one", "two"}) {
		t.Error(n)
	}
}

// P6.1, Open.

func TestOpenOfNoDisk(t *testing.T) {
	checkNotOpened(t, nil, api.ErrArg)
	checkNotOpened(t, disk.New(-1), api.ErrArg)
}

func TestOpenOfADeadDisk(t *testing.T) {
	for _, l := range [][]string{{}, {zeros}, {junk, junk}, laid("one", "two"), {blocksOf(0, "one")[0], junk}} {
		d := diskOf(t, l...)
		d.Fail(0)
		d.Sync()
		for range 3 {
			checkNotOpened(t, d, api.ErrCrash)
			checkDead(t, d, true)
			checkAll(t, d, l...)
		}
		d.Restart(64, 64, 64)
		checkAll(t, d, l...)
	}
}

func TestOpenOfAnEmptyDisk(t *testing.T) {
	for _, n := range []int{0, 1, 2, 6, 255, 65536} {
		d := disk.New(n)
		checkUntouched(t, d, func() { opened(t, d) })
		opened(t, d)
	}
}

// If there is nothing to be cleared nothing is written, nor synced.
func TestOpenOfRecords(t *testing.T) {
	r := rand.New(rand.NewPCG(7, 8))
	for n := range 10 {
		for _, left := range []int{0, 1, 5} {
			payloads := anyPayloads(r, n, 200)
			l := laid(payloads...)
			d := diskOf(t, filled(l, len(l)+left)...)
			checkUntouched(t, d, func() { opened(t, d, payloads...) })
			d.Fail(2)
			opened(t, d, payloads...)
			j := opened(t, d, payloads...)
			checkSize(t, j, n, left)
			// The fuse is as long as it was.
			if d.Sync() != api.OK || d.Sync() != api.OK || d.Sync() != api.ErrCrash {
				t.Fatal("the fuse is another")
			}
		}
	}
}

// Each set of blocks behind the records that aren't empty: these are written, rising, and synced, no others.
func TestOpenClearsWhatIsBehind(t *testing.T) {
	payloads := []string{"one", strings.Repeat("t", 60)}
	for set := range 1 << 5 {
		l := filled(laid(payloads...), 8)
		var ats []int
		for i := range 5 {
			if set>>i&1 == 1 {
				ats = append(ats, 3+i)
				l[3+i] = junks[(set+i)%len(junks)]
			}
		}
		d := diskOf(t, l...)
		opened(t, d, payloads...)
		checkUntouched(t, d, func() { opened(t, d, payloads...) })
		for fuse := range len(ats) + 3 {
			checkClearing(t, l, payloads, ats, fuse)
		}
	}
}

// checkClearing tells whether a disk whose power fails while it is opened was written as it should be.
func checkClearing(t *testing.T, l, payloads []string, ats []int, fuse int) {
	t.Helper()
	things := 0
	if len(ats) > 0 {
		things = len(ats) + 1
	}
	if fuse >= things {
		d := diskOf(t, l...)
		d.Fail(fuse)
		opened(t, d, payloads...)
		for range fuse - things {
			if d.Sync() != api.OK {
				t.Fatal("more things than there should be")
			}
		}
		if d.Sync() != api.ErrCrash {
			t.Fatal("fewer things than there should be")
		}
		return
	}
	pending := ats[:min(fuse+1, len(ats))]
	for kept := range len(ats) + 1 {
		d := diskOf(t, l...)
		d.Fail(fuse)
		checkNotOpened(t, d, api.ErrCrash)
		checkDead(t, d, true)
		checkAll(t, d, l...)
		keep := make([]uint8, len(ats)+1)
		keep[kept] = 20
		want := slices.Clone(l)
		if kept < len(pending) {
			want[pending[kept]] = zeros[:20] + l[pending[kept]][20:]
		}
		d.Restart(keep...)
		checkAll(t, d, want...)
		opened(t, d, payloads...)
	}
}

// Whatever isn't empty behind the records goes, be it whole records of later numbers, or one byte.
func TestOpenClearsAnything(t *testing.T) {
	one := laid("one")
	long := blocksOf(1, strings.Repeat("l", 120))
	for _, behind := range [][]string{
		blocksOf(2, "later"), blocksOf(0, "again"), one, {zeros, blocksOf(1, "far")[0]}, {zeros, zeros, zeros, blocksOf(1, "far")[0]},
		long[:2], long[1:], {long[0], zeros, long[2]}, {long[1], long[0], long[2]}, append(long[:2:2], blocksOf(2, "later")...),
		{long[0][:40] + zeros[40:], long[1], long[2]}, {long[0], long[1], long[2][:60] + zeros[60:]}, {zeros[:1] + long[0][1:], long[1], long[2]},
	} {
		d := diskOf(t, filled(slices.Concat(one, behind), 6)...)
		j := opened(t, d, "one")
		checkAppend(t, j, "two", api.OK)
		checkAppend(t, j, "three", api.OK)
		opened(t, d, "one", "two", "three")
	}
	for i := range 64 {
		d := diskOf(t, one[0], zeros[:i]+"\x01"+zeros[i+1:])
		opened(t, d, "one")
		d = diskOf(t, zeros[:i]+"\x80"+zeros[i+1:])
		opened(t, d)
	}
}

// What is pending on a disk is read: it counts as what stands there.
func TestOpenReadsWhatIsPending(t *testing.T) {
	l := laid("one", "two")
	d := diskOf(t, l[0], junk, zeros, junk)
	for at, b := range []string{l[0], l[1], junk, zeros} {
		d.Write(at, b)
	}
	d.Fail(2)
	j := opened(t, d, "one", "two")
	checkSize(t, j, 2, 2)

	d = diskOf(t, l[0], junk)
	d.Write(1, l[1])
	d.Fail(0)
	j, m, e := Open(d)
	if e != api.OK || !slices.Equal(m, []string{"one", "two"}) {
		t.Fatal(m, e)
	}
	checkSize(t, j, 2, 0)
	checkDead(t, d, false)
	checkAll(t, d, l[0], junk)
}

func TestOpenOfTheGreatestDisk(t *testing.T) {
	d := diskOf(t, slices.Repeat([]string{junk}, 65536)...)
	opened(t, d)
	payloads := slices.Repeat([]string{"a"}, 65535)
	d = diskOf(t, filled(laid(payloads...), 65536)...)
	j := opened(t, d, payloads...)
	checkAppend(t, j, strings.Repeat("b", 50), api.ErrFull)
	checkAppend(t, j, "b", api.OK)
	checkSize(t, j, 65536, 0)
	checkAppend(t, j, "b", api.ErrFull)
	opened(t, d, append(payloads, "b")...)
}

// Lists that are told are nobody else's; disks have nothing to do with one another.
func TestOpenedAreApart(t *testing.T) {
	d, f := diskOf(t, filled(laid("one", "two"), 4)...), disk.New(2)
	_, l, _ := Open(d)
	_, m, _ := Open(d)
	l[0], l[1] = "changed", "changed"
	_ = append(l[:0], "a", "b", "c")
	if !slices.Equal(m, []string{"one", "two"}) {
		t.Error("shared")
	}
	j, k := opened(t, d, "one", "two"), opened(t, f)
	checkAppend(t, j, "three", api.OK)
	checkAppend(t, k, "other", api.OK)
	checkSize(t, j, 3, 1)
	checkSize(t, k, 1, 1)
	opened(t, d, "one", "two", "three")
	opened(t, f, "other")
}

// P6.1, Append.

// What was appended stands at once, one record behind the other, each with its number.
func TestAppend(t *testing.T) {
	r := rand.New(rand.NewPCG(9, 10))
	for range 50 {
		payloads := anyPayloads(r, 1+r.IntN(20), 1+r.IntN(300))
		l := laid(payloads...)
		blocks := len(l) + r.IntN(3)
		d := disk.New(blocks)
		j := opened(t, d)
		for n := range payloads {
			if r.IntN(4) == 0 {
				j = opened(t, d, payloads[:n]...)
			}
			checkAppend(t, j, payloads[n], api.OK)
			now := laid(payloads[:n+1]...)
			checkSize(t, j, n+1, blocks-len(now))
			checkAll(t, d, filled(now, blocks)...)
			d.Restart()
			checkAll(t, d, filled(now, blocks)...)
		}
		opened(t, d, payloads...)
	}
}

func TestAppendOfManySizes(t *testing.T) {
	for _, size := range []int{1, 48, 49, 50, 97, 98, 99, 49 * 127, 49*127 + 1, 49 * 254, 49*254 + 1, most - 1, most} {
		payload := strings.Repeat("s", size)
		blocks := (size + 48) / 49
		// In as many blocks as it has, and in one less.
		d := diskOf(t, filled(laid("one"), 1+blocks)...)
		j := opened(t, d, "one")
		checkAppend(t, j, payload, api.OK)
		checkSize(t, j, 2, 0)
		opened(t, d, "one", payload)
		d = diskOf(t, filled(laid("one"), blocks)...)
		j = opened(t, d, "one")
		checkUntouched(t, d, func() { checkAppend(t, j, payload, api.ErrFull) })
		checkSize(t, j, 1, blocks-1)
	}
}

// Numbers of records that one byte of a tag tells, or two.
func TestAppendOfManyRecords(t *testing.T) {
	for _, n := range []int{253, 254, 255, 256, 65532} {
		payloads := slices.Repeat([]string{"p"}, n)
		d := diskOf(t, filled(laid(payloads...), n+4)...)
		j := opened(t, d, payloads...)
		for range 3 {
			checkAppend(t, j, "q", api.OK)
			payloads = append(payloads, "q")
			if n < 1000 {
				checkAll(t, d, filled(laid(payloads...), n+4)...)
			}
		}
		opened(t, d, payloads...)
	}
}

func TestAppendOfNoRecord(t *testing.T) {
	for _, blocks := range []int{0, 1, 3, 300} {
		d := disk.New(blocks)
		j := opened(t, d)
		if blocks > 0 {
			checkAppend(t, j, "one", api.OK)
		}
		records := j.Len()
		for _, payload := range []string{"", strings.Repeat("a", most+1), strings.Repeat("a", most+49), strings.Repeat("a", 256*49+1), strings.Repeat("a", 257*49), strings.Repeat("a", 1<<20)} {
			// ErrArg comes first, be there room or none.
			checkUntouched(t, d, func() { checkAppend(t, j, payload, api.ErrArg) })
			checkSize(t, j, records, blocks-records)
		}
	}
}

// A journal that had no room, or was told no record, is as it was.
func TestAppendBehindARefusal(t *testing.T) {
	d := disk.New(4)
	j := opened(t, d)
	checkAppend(t, j, "one", api.OK)
	for range 3 {
		checkAppend(t, j, strings.Repeat("a", 148), api.ErrFull)
		checkAppend(t, j, "", api.ErrArg)
		checkSize(t, j, 1, 3)
	}
	checkAppend(t, j, strings.Repeat("a", 60), api.OK)
	checkAppend(t, j, strings.Repeat("a", 50), api.ErrFull)
	checkAppend(t, j, "three", api.OK)
	checkSize(t, j, 3, 0)
	for _, payload := range []string{"a", strings.Repeat("a", 50), strings.Repeat("a", most)} {
		checkAppend(t, j, payload, api.ErrFull)
	}
	checkAppend(t, j, "", api.ErrArg)
	opened(t, d, "one", strings.Repeat("a", 60), "three")
}

// That the disk is dead is told first, whatever is asked.
func TestAppendOnADeadDisk(t *testing.T) {
	for _, blocks := range []int{1, 5} {
		d := disk.New(blocks)
		j := opened(t, d)
		checkAppend(t, j, "one", api.OK)
		d.Fail(0)
		d.Sync()
		for _, payload := range []string{"", "a", strings.Repeat("a", 49*5), strings.Repeat("a", most), strings.Repeat("a", most+1)} {
			checkAppend(t, j, payload, api.ErrCrash)
			checkDead(t, d, true)
		}
		d.Restart(64, 64, 64)
		opened(t, d, "one")
	}
}

// A record of so many blocks is so many writes, in order, and a sync.
func TestAppendIsWritesAndASync(t *testing.T) {
	for blocks := 1; blocks <= 6; blocks++ {
		payload := strings.Repeat("p", 49*blocks)
		l := blocksOf(1, payload)
		for fuse := range blocks + 1 {
			for kept := range blocks + 1 {
				d := disk.New(8)
				j := opened(t, d)
				checkAppend(t, j, "one", api.OK)
				d.Fail(fuse)
				checkAppend(t, j, payload, api.ErrCrash)
				checkDead(t, d, true)
				checkAppend(t, j, "a", api.ErrCrash)
				checkAll(t, d, filled(laid("one"), 8)...)
				keep := make([]uint8, blocks+1)
				keep[kept] = 20
				want := filled(laid("one"), 8)
				if kept < blocks && kept <= fuse {
					want[1+kept] = l[kept][:20] + zeros[20:]
				}
				d.Restart(keep...)
				checkAll(t, d, want...)
			}
		}
		d := disk.New(8)
		j := opened(t, d)
		checkAppend(t, j, "one", api.OK)
		d.Fail(blocks + 1)
		checkAppend(t, j, payload, api.OK)
		checkDead(t, d, false)
		if d.Sync() != api.ErrCrash {
			t.Fatal("fewer things than there should be")
		}
	}
}

// P6.1: of a nil journal, P1.

func TestNilJournal(t *testing.T) {
	var j *Journal
	for _, payload := range []string{"", "a", strings.Repeat("a", most), strings.Repeat("a", most+1)} {
		checkAppend(t, j, payload, api.ErrArg)
	}
	checkSize(t, j, 0, 0)
}

// A journal that wasn't opened has no disk, so no room.
func TestJournalOfNoDisk(t *testing.T) {
	var j Journal
	checkAppend(t, &j, "a", api.ErrFull)
	checkAppend(t, &j, "", api.ErrArg)
	checkSize(t, &j, 0, 0)
}

// On a disk that was restarted, and wasn't dead of an Append, a journal goes on.
func TestJournalBehindARestart(t *testing.T) {
	d := disk.New(3)
	j := opened(t, d)
	checkAppend(t, j, "one", api.OK)
	d.Restart(64, 64)
	checkAppend(t, j, "two", api.OK)
	checkSize(t, j, 2, 1)
	opened(t, d, "one", "two")
}

// P6.2.

// checkStanding tells whether a disk is opened with all that were appended, and the one that was being appended if it stands whole; and goes on with them.
func checkStanding(t *testing.T, d *disk.Disk, sure []string, perhaps string) {
	t.Helper()
	want := slices.Clone(sure)
	at := len(laid(sure...))
	if l := blocksOf(len(sure), perhaps); slices.Equal(d.All()[at:at+len(l)], l) {
		want = append(want, perhaps)
	}
	opened(t, d, want...)
	checkUntouched(t, d, func() { opened(t, d, want...) })
	j := opened(t, d, want...)
	if j.Left() > 0 {
		checkAppend(t, j, "on", api.OK)
		opened(t, d, append(want, "on")...)
	}
}

// crashed is a disk whose power failed in an Append, and came again.
func crashed(t *testing.T, stands []string, payload string, fuse int, keep ...uint8) *disk.Disk {
	t.Helper()
	d := diskOf(t, stands...)
	j, _, e := Open(d)
	if e != api.OK {
		t.Fatal(e)
	}
	d.Fail(fuse)
	checkAppend(t, j, payload, api.ErrCrash)
	d.Restart(keep...)
	return d
}

// Of a record of one block each number of bytes stands, of one of two each pair of numbers.
func TestAppendWhateverStands(t *testing.T) {
	r := rand.New(rand.NewPCG(11, 12))
	for _, payload := range []string{"a", anyBytes(r, 49), "\x00", strings.Repeat("\x00", 49), anyBytes(r, 48) + "\x00"} {
		for fuse := range 2 {
			for keep := range 256 {
				d := crashed(t, filled(laid("one"), 4), payload, fuse, uint8(keep))
				checkStanding(t, d, []string{"one"}, payload)
			}
		}
	}
	payload := anyBytes(r, 60)
	for fuse := 1; fuse <= 2; fuse++ {
		for keep := range uint8(65) {
			for more := range uint8(65) {
				d := crashed(t, filled(laid("one"), 4), payload, fuse, keep, more)
				checkStanding(t, d, []string{"one"}, payload)
			}
		}
	}
}

// At each number whose tag has bytes 0, or turns to more bytes.
func TestAppendOfEachTag(t *testing.T) {
	for _, n := range []int{0, 254, 255, 256} {
		sure := slices.Repeat([]string{"s"}, n)
		stands := filled(laid(sure...), n+3)
		for _, keep := range []uint8{0, 1, 2, 4, 20, 60, 61, 62, 63, 64} {
			d := crashed(t, stands, "tagged", 1, keep)
			checkStanding(t, d, sure, "tagged")
			checkCrashesInOpen(t, crashed(t, stands, strings.Repeat("t", 98), 2, keep, 64).All(), sure, strings.Repeat("t", 98))
		}
	}
}

// At any write or sync, with any of what was pending standing.
func TestAppendWhereverThePowerFails(t *testing.T) {
	r := rand.New(rand.NewPCG(13, 14))
	keeps := []uint8{0, 1, 8, 40, 60, 61, 64}
	for blocks := 1; blocks <= 4; blocks++ {
		sure := anyPayloads(r, blocks-1, 100)
		payload := anyBytes(r, 49*blocks-r.IntN(49))
		stands := filled(laid(sure...), len(laid(sure...))+blocks+blocks%2)
		for fuse := range blocks + 1 {
			pending := min(fuse+1, blocks)
			sets := 1
			for range pending {
				sets *= len(keeps)
			}
			for set := range sets {
				keep := make([]uint8, pending)
				for i := range keep {
					keep[i] = keeps[set%len(keeps)]
					set /= len(keeps)
				}
				checkStanding(t, crashed(t, stands, payload, fuse, keep...), sure, payload)
			}
		}
	}
}

// checkCrashesInOpen fails the power at each thing while a disk is opened; what it is opened with stays the same.
func checkCrashesInOpen(t *testing.T, stands, sure []string, perhaps string) {
	t.Helper()
	want, _ := Records(stands...)
	if !slices.Equal(want, sure) && !slices.Equal(want, append(slices.Clone(sure), perhaps)) {
		t.Fatalf("%q", want)
	}
	for fuse := 0; ; fuse++ {
		for _, keep := range [][]uint8{nil, {1}, {2, 64}, {3, 0, 40}, {4, 4, 4, 4}, {64, 0, 64}, {0, 64, 0, 64}, {33, 61, 60, 5}, {64, 64, 64, 64}} {
			d := diskOf(t, stands...)
			d.Fail(fuse)
			if j, _, e := Open(d); e == api.OK {
				checkDead(t, d, false)
				checkAppend(t, j, "", api.ErrArg)
				d.Restart()
				opened(t, d, want...)
				return
			}
			checkDead(t, d, true)
			checkNotOpened(t, d, api.ErrCrash)
			d.Restart(keep...)
			checkRecords(t, d.All(), want, len(laid(want...)))
			opened(t, d, want...)
			opened(t, d, want...)
		}
	}
}

func TestOpenWhereverThePowerFails(t *testing.T) {
	r := rand.New(rand.NewPCG(15, 16))
	for blocks := 1; blocks <= 4; blocks++ {
		for range 60 {
			sure := anyPayloads(r, r.IntN(4), 100)
			payload := anyBytes(r, 49*blocks-r.IntN(49))
			keep := anyKeep(r, blocks)
			stands := filled(laid(sure...), len(laid(sure...))+blocks+r.IntN(2))
			d := crashed(t, stands, payload, r.IntN(blocks+1), keep...)
			checkCrashesInOpen(t, d.All(), sure, payload)
		}
	}
}

func anyKeep(r *rand.Rand, n int) []uint8 {
	keep := make([]uint8, n)
	for i := range keep {
		keep[i] = []uint8{0, 1, 30, 63, 64, 64, 64, 255, uint8(r.IntN(65))}[r.IntN(9)]
	}
	return keep
}

// story is what was appended to some disks; all are asked the same, and told the same (P2).
type story struct {
	disks []*disk.Disk
	sure  []string
	maybe string // the one that was being appended when the power failed
}

// open lets the power fail while the disks are opened, again and again, till they are.
func (s *story) open(t *testing.T, r *rand.Rand) []*Journal {
	t.Helper()
	for {
		fuse := r.IntN(8) - 1
		var journals []*Journal
		var told []string
		for i, d := range s.disks {
			d.Fail(fuse)
			j, l, e := Open(d)
			if i > 0 && (e == api.OK) != (len(journals) > 0) || i > 0 && !slices.Equal(l, told) {
				t.Fatal("told something else")
			}
			told = l
			if e == api.OK {
				journals = append(journals, j)
			} else if e != api.ErrCrash || !d.Dead() {
				t.Fatal(e)
			}
		}
		if len(journals) > 0 {
			s.settle(t, told)
			return journals
		}
		keep := anyKeep(r, 20)
		for _, d := range s.disks {
			d.Restart(keep...)
		}
	}
}

// settle holds what was told against what was appended; from now on it stays so.
func (s *story) settle(t *testing.T, told []string) {
	t.Helper()
	if s.maybe != "" && slices.Equal(told, append(slices.Clone(s.sure), s.maybe)) {
		s.sure = told
	}
	s.maybe = ""
	if !slices.Equal(told, s.sure) {
		t.Fatalf("%q, not %q", told, s.sure)
	}
}

// do appends till the power fails, or there is no room.
func (s *story) do(t *testing.T, r *rand.Rand, journals []*Journal) {
	t.Helper()
	fuse := r.IntN(12)
	for _, d := range s.disks {
		d.Fail(fuse)
	}
	for {
		payload := anyBytes(r, r.IntN(1+r.IntN(200)))
		e := journals[0].Append(payload)
		for _, j := range journals[1:] {
			if f := j.Append(payload); f != e {
				t.Fatal(f, e)
			}
		}
		full := len(blocksOf(0, payload)) > s.disks[0].Len()-len(laid(s.sure...))
		if (e == api.ErrArg) != (payload == "") || (e == api.ErrFull) != full {
			t.Fatalf("Append of %d bytes: %d", len(payload), e)
		}
		switch e {
		case api.OK:
			s.sure = append(s.sure, payload)
		case api.ErrCrash:
			s.maybe = payload
			return
		case api.ErrFull:
			if r.IntN(3) == 0 {
				return
			}
		case api.ErrArg:
		default:
			t.Fatal(e)
		}
		for i, j := range journals {
			checkSize(t, j, len(s.sure), s.disks[i].Len()-len(laid(s.sure...)))
		}
	}
}

// Whatever fails, in any order, again and again.
func TestAnyFailures(t *testing.T) {
	r := rand.New(rand.NewPCG(17, 18))
	for range 400 {
		blocks := r.IntN(60)
		s := &story{disks: []*disk.Disk{disk.New(blocks), disk.New(blocks)}}
		for range 15 {
			s.do(t, r, s.open(t, r))
			keep := anyKeep(r, r.IntN(8))
			for _, d := range s.disks {
				d.Restart(keep...)
			}
		}
		for _, d := range s.disks {
			told, _ := Records(d.All()...)
			s.settle(t, told)
			opened(t, d, s.sure...)
		}
	}
}

// P1: of any blocks a disk is opened, with what Records tells of them.
func TestAnyBlocks(t *testing.T) {
	r := rand.New(rand.NewPCG(19, 20))
	for range 1000 {
		l := laid(anyPayloads(r, r.IntN(6), 120)...)
		for range r.IntN(4) {
			at := r.IntN(len(l) + 1)
			switch r.IntN(4) {
			case 0:
				l = slices.Insert(l, at, zeros)
			case 1:
				l = slices.Insert(l, at, anyBytes(r, 64))
			case 2:
				l = slices.Insert(l, at, blocksOf(r.IntN(6), anyBytes(r, 1+r.IntN(100)))...)
			default:
				if at < len(l) {
					i := r.IntN(64)
					l[at] = l[at][:i] + string([]byte{byte(r.Uint32())}) + l[at][i+1:]
				}
			}
		}
		payloads, n := Records(l...)
		if !slices.Equal(laid(payloads...), l[:n]) {
			t.Fatalf("%q are not the blocks of %q", l[:n], payloads)
		}
		checkRecords(t, l, payloads, n)
		opened(t, diskOf(t, l...), payloads...)
	}
}
