package block

import (
	"encoding/binary"
	"hash/crc32"
	"math"
	"math/rand/v2"
	"slices"
	"strings"
	"testing"

	"souk/api"
)

const (
	greatest = 1<<32 - 2
	most     = 255 * 49 // bytes of the longest payload
)

// numbers are some that a record may have: at each byte's edges.
var numbers = []int64{0, 1, 2, 126, 127, 128, 254, 255, 256, 65534, 65535, 65536, 1<<24 - 2, 1<<24 - 1, 1 << 24, 1<<31 - 2, 1<<31 - 1, 1 << 31, greatest - 1, greatest}

// noNumbers are some that none may have.
var noNumbers = []int64{-1, -2, -256, math.MinInt64, math.MinInt64 + 1, -1 << 32, 1<<32 - 1, 1 << 32, 1<<32 + 1, 1<<33 - 2, 1 << 40, math.MaxInt64 - 1, math.MaxInt64}

// sizes are some that a payload may have.
var sizes = []int{1, 2, 48, 49, 50, 97, 98, 99, 147, 148, 500, 127 * 49, 127*49 + 1, 254 * 49, 254*49 + 1, most - 1, most}

// sealed is a block of any parts, right or wrong, with the sum that is theirs, by Go's own library.
func sealed(tag uint32, place, count, length byte, data string) string {
	l := binary.LittleEndian.AppendUint32(nil, tag)
	l = append(l, place, count, length)
	l = append(l, data...)
	l = append(l, make([]byte, 49-len(data))...)
	l = binary.LittleEndian.AppendUint32(l, crc32.ChecksumIEEE(l))
	return string(binary.LittleEndian.AppendUint32(l, tag))
}

// resealed is a block with some other bytes, and a sum that is right then.
func resealed(b string, at int, bytes string) string {
	l := []byte(b)
	copy(l[at:], bytes)
	binary.LittleEndian.PutUint32(l[56:], crc32.ChecksumIEEE(l[:56]))
	return string(l)
}

// blocksOf are a record's, by the chapter's words and Go's own library.
func blocksOf(number int64, payload string) []string {
	var l []string
	count := (len(payload) + 48) / 49
	for place := 0; payload != ""; place++ {
		n := min(49, len(payload))
		l = append(l, sealed(uint32(number+1), byte(place), byte(count), byte(n), payload[:n]))
		payload = payload[n:]
	}
	return l
}

func anyBytes(r *rand.Rand, n int) string {
	l := make([]byte, n)
	for i := range l {
		l[i] = byte(r.Uint32())
	}
	return string(l)
}

// pack is Pack, of a record that there is.
func pack(t *testing.T, number int64, payload string) []string {
	t.Helper()
	l, e := Pack(number, payload)
	if e != api.OK {
		t.Fatalf("%d, %d bytes: %d", number, len(payload), e)
	}
	return l
}

func checkUnpack(t *testing.T, number int64, l []string, payload string, n int, want api.Errno) {
	t.Helper()
	before := slices.Clone(l)
	// Twice: what is handed in stays as it was, and the same is answered.
	for range 2 {
		s, k, e := Unpack(number, l...)
		if s != payload || k != n || e != want {
			t.Fatalf("number %d, %d blocks: %d bytes of %d blocks, %d, not %d bytes of %d blocks, %d", number, len(l), len(s), k, e, len(payload), n, want)
		}
	}
	if !slices.Equal(l, before) {
		t.Fatal("what was handed in is changed")
	}
}

// checkNone tells whether blocks begin with none of the record's.
func checkNone(t *testing.T, number int64, l ...string) {
	t.Helper()
	checkUnpack(t, number, l, "", 0, api.ErrSum)
}

// P4.1, Pack.

func TestData(t *testing.T) {
	if Data != 49 {
		t.Error(Data)
	}
}

func TestExample(t *testing.T) {
	payload := strings.Repeat("x", 49) + "y"
	l := pack(t, 0, payload)
	want := []string{
		sealed(1, 0, 2, 49, strings.Repeat("x", 49)),
		sealed(1, 1, 2, 1, "y"),
	}
	if !slices.Equal(l, want) {
		t.Errorf("%q", l)
	}
}

// Bytes that are written out, the sums among them.
func TestBytesOfBlocks(t *testing.T) {
	for _, c := range []struct {
		number  int64
		payload string
		block   string
	}{
		{1, "hello", "\x02\x00\x00\x00\x00\x01\x05hello" + strings.Repeat("\x00", 44) + "\x38\xc2\xcb\x4f" + "\x02\x00\x00\x00"},
		{0, "\x00", "\x01\x00\x00\x00\x00\x01\x01" + strings.Repeat("\x00", 49) + "\xfc\x5c\x52\x80" + "\x01\x00\x00\x00"},
		{greatest, strings.Repeat("\xff", 49), "\xff\xff\xff\xff\x00\x01\x31" + strings.Repeat("\xff", 49) + "\x4b\x24\x9d\x0f" + "\xff\xff\xff\xff"},
		{0x01020303, "a", "\x04\x03\x02\x01\x00\x01\x01a" + strings.Repeat("\x00", 48) + "\xf5\xdc\x3e\x9a" + "\x04\x03\x02\x01"},
	} {
		if l := pack(t, c.number, c.payload); len(l) != 1 || l[0] != c.block {
			t.Errorf("%q", l)
		}
	}
}

func TestBlocksOfRecords(t *testing.T) {
	r := rand.New(rand.NewPCG(1, 2))
	for _, number := range numbers {
		for _, size := range sizes {
			payload := anyBytes(r, size)
			l := pack(t, number, payload)
			if !slices.Equal(l, blocksOf(number, payload)) {
				t.Fatalf("%d, %d bytes", number, size)
			}
		}
	}
}

func TestEachSize(t *testing.T) {
	r := rand.New(rand.NewPCG(3, 4))
	for size := 1; size <= most; size += 1 + size/300 {
		payload := anyBytes(r, size)
		l := pack(t, 77, payload)
		if !slices.Equal(l, blocksOf(77, payload)) {
			t.Fatal(size)
		}
		checkUnpack(t, 77, l, payload, (size+48)/49, api.OK)
	}
}

func TestPackOfNoRecord(t *testing.T) {
	check := func(number int64, payload string) {
		t.Helper()
		if l, e := Pack(number, payload); len(l) != 0 || e != api.ErrArg {
			t.Errorf("%d, %d bytes: %d blocks, %d", number, len(payload), len(l), e)
		}
	}
	for _, number := range noNumbers {
		check(number, "a")
		check(number, strings.Repeat("a", 100))
		check(number, "")
		check(number, strings.Repeat("a", most+1))
	}
	for _, number := range numbers {
		check(number, "")
		check(number, strings.Repeat("a", most+1))
		check(number, strings.Repeat("a", 256*49))
		check(number, strings.Repeat("a", 256*49+1))
		check(number, strings.Repeat("a", 257*49))
	}
	check(0, strings.Repeat("a", 1<<20))
}

// What was answered is not shared: a list that is changed is heard of by none.
func TestListsAreNew(t *testing.T) {
	a := pack(t, 5, strings.Repeat("a", 100))
	b := pack(t, 5, strings.Repeat("a", 100))
	for i := range a {
		a[i] = "changed"
	}
	want := blocksOf(5, strings.Repeat("a", 100))
	if !slices.Equal(b, want) || !slices.Equal(pack(t, 5, strings.Repeat("a", 100)), want) {
		t.Error("shared")
	}
}

// P4.1, Unpack.

func TestUnpackOfNothing(t *testing.T) {
	for _, number := range slices.Concat(numbers, noNumbers) {
		checkUnpack(t, number, nil, "", 0, api.ErrCut)
		checkUnpack(t, number, []string{}, "", 0, api.ErrCut)
		// What lies behind the list's length is not read.
		checkUnpack(t, number, blocksOf(number, "a")[:0], "", 0, api.ErrCut)
	}
}

func TestUnpackOfNoNumber(t *testing.T) {
	for _, number := range noNumbers {
		checkUnpack(t, number, []string{""}, "", 0, api.ErrArg)
		checkUnpack(t, number, []string{"junk"}, "", 0, api.ErrArg)
		// blocks whose tag would be this number's, if only its lowest bytes were looked at
		checkUnpack(t, number, blocksOf(number, "a"), "", 0, api.ErrArg)
		checkUnpack(t, number, blocksOf(0, "a"), "", 0, api.ErrArg)
	}
}

func TestUnpackOfRecords(t *testing.T) {
	r := rand.New(rand.NewPCG(5, 6))
	for _, number := range numbers {
		for _, size := range sizes {
			payload := anyBytes(r, size)
			checkUnpack(t, number, blocksOf(number, payload), payload, (size+48)/49, api.OK)
		}
	}
}

// What stands behind the record is not asked for anything.
func TestUnpackOfMore(t *testing.T) {
	payload := strings.Repeat("ab", 60)
	l := blocksOf(9, payload)
	for _, more := range [][]string{
		{""}, {"junk"}, {strings.Repeat("\x00", 64)}, {strings.Repeat("x", 1000)}, l, blocksOf(10, payload), blocksOf(9, "another"), {l[2]}, {"", l[0]},
		slices.Repeat([]string{l[0]}, 300), slices.Repeat([]string{""}, 70000),
	} {
		checkUnpack(t, 9, slices.Concat(l, more), payload, 3, api.OK)
	}
	// nor what lies behind the list's length
	long := append(slices.Clone(l), l...)
	checkUnpack(t, 9, long[:3], payload, 3, api.OK)
	checkNone(t, 9, long[:2]...)
}

func TestUnpackOfAnotherNumber(t *testing.T) {
	for _, number := range numbers {
		for _, other := range numbers {
			if other != number {
				checkNone(t, number, blocksOf(other, "hello")...)
				checkNone(t, number, blocksOf(other, strings.Repeat("a", 50))...)
			}
		}
		checkNone(t, number, resealed(strings.Repeat("\x00", 64), 4, "\x00\x01\x01"))
	}
}

func TestUnpackOfTooFewBlocks(t *testing.T) {
	r := rand.New(rand.NewPCG(7, 8))
	for _, size := range sizes {
		l := blocksOf(3, anyBytes(r, size))
		for n := 1; n < len(l); n += 1 + n/20 {
			checkNone(t, 3, l[:n]...)
			checkNone(t, 3, l[n:]...)
			checkNone(t, 3, slices.Concat(l[:n], l[:1])...)
			checkNone(t, 3, slices.Concat(l[:n], []string{""})...)
		}
	}
}

// Of blocks of another size none is a record's.
func TestUnpackOfOtherSizes(t *testing.T) {
	b := blocksOf(3, "hello")[0]
	for n := range 64 {
		checkNone(t, 3, b[:n])
		checkNone(t, 3, b[n+1:])
	}
	checkNone(t, 3, b+"\x00")
	checkNone(t, 3, "\x00"+b)
	checkNone(t, 3, b+b)
	checkNone(t, 3, "", b)
	l := blocksOf(3, strings.Repeat("a", 147))
	for i := range l {
		for _, s := range []string{"", l[i][:63], l[i][1:], l[i] + "\x00", l[i] + l[i]} {
			m := slices.Clone(l)
			m[i] = s
			checkNone(t, 3, m...)
		}
	}
}

// Blocks whose sums are right, and that Pack never makes.
func TestUnpackOfWrongParts(t *testing.T) {
	full := strings.Repeat("f", 49)
	for _, c := range []struct {
		what string
		l    []string
	}{
		{"of none", []string{sealed(1, 0, 0, 5, "hello")}},
		{"of none, full", []string{sealed(1, 0, 0, 49, full), sealed(1, 1, 0, 49, full)}},
		{"without bytes", []string{sealed(1, 0, 1, 0, "")}},
		{"without bytes, but some", []string{sealed(1, 0, 1, 0, "hello")}},
		{"the last without bytes", []string{sealed(1, 0, 2, 49, full), sealed(1, 1, 2, 0, "")}},
		{"the first without bytes", []string{sealed(1, 0, 2, 0, ""), sealed(1, 1, 2, 5, "hello")}},
		{"more bytes than there is room", []string{sealed(1, 0, 1, 50, full)}},
		{"more bytes, up to the sum", []string{sealed(1, 0, 1, 57, full)}},
		{"more bytes, up to the end", []string{sealed(1, 0, 1, 58, full)}},
		{"the most bytes", []string{sealed(1, 0, 1, 255, full)}},
		{"the most bytes, not the last", []string{sealed(1, 0, 2, 255, full), sealed(1, 1, 2, 1, "a")}},
		{"the most bytes, the last", []string{sealed(1, 0, 2, 49, full), sealed(1, 1, 2, 255, full)}},
		{"fewer bytes than are there", []string{sealed(1, 0, 1, 4, "hello")}},
		{"a byte far behind", []string{sealed(1, 0, 1, 5, "hello"+strings.Repeat("\x00", 43)+"x")}},
		{"one that isn't the last not full", []string{sealed(1, 0, 2, 48, full[:48]), sealed(1, 1, 2, 1, "a")}},
		{"one in the middle not full", []string{sealed(1, 0, 3, 49, full), sealed(1, 1, 3, 1, "a"), sealed(1, 2, 3, 1, "a")}},
		{"place 1 first", []string{sealed(1, 1, 2, 49, full), sealed(1, 1, 2, 1, "a")}},
		{"place 1 alone", []string{sealed(1, 1, 1, 5, "hello")}},
		{"place 255 alone", []string{sealed(1, 255, 255, 5, "hello")}},
		{"place 0 twice", []string{sealed(1, 0, 2, 49, full), sealed(1, 0, 2, 1, "a")}},
		{"place 2 of 2", []string{sealed(1, 0, 2, 49, full), sealed(1, 2, 2, 1, "a")}},
		{"another count behind", []string{sealed(1, 0, 2, 49, full), sealed(1, 1, 3, 1, "a")}},
		{"another count ahead", []string{sealed(1, 0, 3, 49, full), sealed(1, 1, 2, 1, "a")}},
		{"another count ahead, three", []string{sealed(1, 0, 3, 49, full), sealed(1, 1, 2, 49, full), sealed(1, 2, 3, 1, "a")}},
		{"another tag behind", []string{sealed(1, 0, 2, 49, full), sealed(2, 1, 2, 1, "a")}},
		{"another tag ahead", []string{sealed(2, 0, 2, 49, full), sealed(1, 1, 2, 1, "a")}},
		{"tag 0", []string{sealed(0, 0, 1, 5, "hello")}},
		{"all bytes 0", []string{strings.Repeat("\x00", 64)}},
		{"all bytes 0, but the sum", []string{sealed(0, 0, 0, 0, "")}},
		{"all bytes 255", []string{strings.Repeat("\xff", 64)}},
		{"all bytes 1", []string{strings.Repeat("\x01", 64)}},
	} {
		t.Run(c.what, func(t *testing.T) { checkNone(t, 0, c.l...) })
	}
}

// More blocks than a record may have: their places and their count don't begin anew.
func TestUnpackOfTooManyBlocks(t *testing.T) {
	full := strings.Repeat("f", 49)
	for _, count := range []int{256, 257, 258, 512} {
		var l []string
		for i := range count {
			l = append(l, sealed(1, byte(i), byte(count), 49, full))
		}
		if n := count % 256; n == 0 {
			checkNone(t, 0, l...)
		} else {
			checkUnpack(t, 0, l, strings.Repeat(full, n), n, api.OK)
		}
	}
	// the last place that there is, and the one behind it, which is 0 again
	l := blocksOf(0, strings.Repeat(full, 255))
	checkUnpack(t, 0, append(l, sealed(1, 255, 255, 49, full), sealed(1, 0, 255, 1, "a")), strings.Repeat(full, 255), 255, api.OK)
	l[254] = sealed(1, 254, 0, 49, full)
	checkNone(t, 0, l...)
}

// The sum is held against the bytes, and the two tags too, each bit of them.
func TestEachBitIsLookedAt(t *testing.T) {
	for _, payload := range []string{"hello", strings.Repeat("a", 49), strings.Repeat("a", 120)} {
		l := blocksOf(6, payload)
		for i := range l {
			for bit := range 64 * 8 {
				b := []byte(l[i])
				b[bit/8] ^= 1 << (bit % 8)
				m := slices.Clone(l)
				m[i] = string(b)
				checkNone(t, 6, m...)
			}
		}
	}
}

// A sum that is right does not make up for the tag behind it, nor for the one ahead.
func TestOneTagIsNotEnough(t *testing.T) {
	b := blocksOf(6, "hello")[0]
	checkNone(t, 6, b[:60]+"\x00\x00\x00\x00")
	checkNone(t, 6, b[:60]+"\x08\x00\x00\x00")
	checkNone(t, 6, resealed(b, 0, "\x08\x00\x00\x00"))
	checkNone(t, 7, resealed(b, 0, "\x08\x00\x00\x00"))
	checkNone(t, 7, b[:60]+"\x08\x00\x00\x00")
	checkNone(t, 6, resealed(b, 0, "\x00\x00\x00\x07"))
	checkUnpack(t, 7, []string{resealed(b, 0, "\x08\x00\x00\x00")[:60] + "\x08\x00\x00\x00"}, "hello", 1, api.OK)
}

// P4.2: what was packed is unpacked.

func TestWhatWasPackedIsUnpacked(t *testing.T) {
	r := rand.New(rand.NewPCG(9, 10))
	for range 1000 {
		number := r.Int64N(greatest+1) >> r.IntN(32)
		payload := anyBytes(r, 1+r.IntN(most)>>r.IntN(13))
		l := pack(t, number, payload)
		checkUnpack(t, number, l, payload, len(l), api.OK)
	}
}

func TestRecordsBehindOneAnother(t *testing.T) {
	r := rand.New(rand.NewPCG(11, 12))
	var all, payloads []string
	for number := range int64(300) {
		payload := anyBytes(r, 1+r.IntN(300))
		payloads = append(payloads, payload)
		all = append(all, pack(t, number, payload)...)
	}
	for number, payload := range payloads {
		n := (len(payload) + 48) / 49
		checkUnpack(t, int64(number), all, payload, n, api.OK)
		checkNone(t, int64(number)+1, all...)
		all = all[n:]
	}
	checkUnpack(t, 300, all, "", 0, api.ErrCut)
}

// P4.2: blocks of which one is another one are none's, or that record's.
func TestOneIsAnother(t *testing.T) {
	r := rand.New(rand.NewPCG(13, 14))
	payload := anyBytes(r, 49*6+20)
	l := pack(t, 4, payload)
	others := slices.Concat(l, pack(t, 3, payload), pack(t, 5, payload), pack(t, 4, payload+strings.Repeat("a", 49)), pack(t, 4, payload[:49*6]),
		[]string{strings.Repeat("\x00", 64), anyBytes(r, 64)})
	for i := range l {
		for _, other := range others {
			m := slices.Clone(l)
			m[i] = other
			if other == l[i] {
				checkUnpack(t, 4, m, payload, 7, api.OK)
			} else {
				checkNone(t, 4, m...)
			}
		}
	}
}

// A block that is the same as the one in whose place it stands doesn't matter; all are told apart by their place.
func TestPlacesOfTheSameBytes(t *testing.T) {
	payload := strings.Repeat("\x00", 49*4)
	l := pack(t, 0, payload)
	for i := range l {
		for j := range l {
			m := slices.Clone(l)
			m[i], m[j] = m[j], m[i]
			if i == j {
				checkUnpack(t, 0, m, payload, 4, api.OK)
			} else {
				checkNone(t, 0, m...)
			}
		}
		checkNone(t, 0, slices.Delete(slices.Clone(l), i, i+1)...)
		checkNone(t, 0, slices.Insert(slices.Clone(l), i, strings.Repeat("\x00", 64))...)
	}
}

// P4.2: blocks of which one ends with other bytes from some on are none's, or that record's.
func TestOneEndsWithOthers(t *testing.T) {
	r := rand.New(rand.NewPCG(15, 16))
	for _, number := range numbers {
		payload := anyBytes(r, 49*2+20)
		l := pack(t, number, payload)
		behinds := slices.Concat(l, pack(t, (number+1)%greatest, payload), []string{
			strings.Repeat("\x00", 64), strings.Repeat("\xff", 64), strings.Repeat("x", 64), anyBytes(r, 64),
		})
		for i := range l {
			for _, behind := range behinds {
				for n := range 65 {
					m := slices.Clone(l)
					m[i] = l[i][:n] + behind[n:]
					if m[i] == l[i] {
						checkUnpack(t, number, m, payload, 3, api.OK)
					} else {
						checkNone(t, number, m...)
					}
				}
			}
		}
	}
}

// P1: at anything each call ends; P2: and answers the same, which is of a record, or none's.

// checkTold tells whether an answer of Unpack is one: of those that say OK the blocks are Pack's.
func checkTold(t *testing.T, number int64, l []string) api.Errno {
	t.Helper()
	s, n, e := Unpack(number, l...)
	checkUnpack(t, number, l, s, n, e)
	switch e {
	case api.OK:
		if n < 1 || n > len(l) || !slices.Equal(blocksOf(number, s), l[:n]) {
			t.Fatalf("%d: %q, of %q", number, s, l)
		}
	case api.ErrSum:
		if s != "" || n != 0 {
			t.Fatal(s, n)
		}
	default:
		t.Fatal(e)
	}
	return e
}

// Of blocks whose three bytes are any, with sums that are right, the ones that Pack makes are a record's, and no others.
func TestAnyShapes(t *testing.T) {
	r := rand.New(rand.NewPCG(17, 18))
	told := [2]int{}
	for range 30000 {
		l := make([]string, 1+r.IntN(3))
		for i := range l {
			length := []int{0, 1, 48, 49, 50, 255}[r.IntN(6)]
			if r.IntN(3) > 0 {
				length = 49
			}
			l[i] = sealed(uint32(1+r.IntN(20)/19), byte((i+r.IntN(20)/18)%256), byte(r.IntN(9)/3+len(l)-1), byte(length), anyBytes(r, min(length, 49)))
		}
		if checkTold(t, 0, l) == api.OK {
			told[0]++
		} else {
			told[1]++
		}
	}
	if told[0] < 1000 || told[1] < 1000 {
		t.Error("not both told often", told)
	}
}

func TestAnyBytes(t *testing.T) {
	r := rand.New(rand.NewPCG(19, 20))
	for range 3000 {
		l := make([]string, 1+r.IntN(5))
		for i := range l {
			l[i] = anyBytes(r, []int{64, 64, r.IntN(200)}[r.IntN(3)])
		}
		number := r.Int64N(greatest + 1)
		if checkTold(t, number, l) != api.ErrSum {
			t.Fatalf("%d: %q", number, l)
		}
	}
}
