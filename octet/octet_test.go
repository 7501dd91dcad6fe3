package octet

import (
	"encoding/binary"
	"math"
	"math/rand/v2"
	"strings"
	"testing"

	"souk/api"
)

const (
	least    = math.MinInt64
	greatest = math.MaxInt64
)

// numbers are some, with their bytes.
var numbers = []struct {
	n     int64
	bytes string
}{
	{0, "\x00\x00\x00\x00\x00\x00\x00\x00"},
	{1, "\x01\x00\x00\x00\x00\x00\x00\x00"},
	{-1, "\xff\xff\xff\xff\xff\xff\xff\xff"},
	{-2, "\xfe\xff\xff\xff\xff\xff\xff\xff"},
	{127, "\x7f\x00\x00\x00\x00\x00\x00\x00"},
	{128, "\x80\x00\x00\x00\x00\x00\x00\x00"},
	{255, "\xff\x00\x00\x00\x00\x00\x00\x00"},
	{256, "\x00\x01\x00\x00\x00\x00\x00\x00"},
	{-256, "\x00\xff\xff\xff\xff\xff\xff\xff"},
	{-257, "\xff\xfe\xff\xff\xff\xff\xff\xff"},
	{1<<31 - 1, "\xff\xff\xff\x7f\x00\x00\x00\x00"},
	{1 << 31, "\x00\x00\x00\x80\x00\x00\x00\x00"},
	{1<<32 - 1, "\xff\xff\xff\xff\x00\x00\x00\x00"},
	{1 << 32, "\x00\x00\x00\x00\x01\x00\x00\x00"},
	{-1 << 31, "\x00\x00\x00\x80\xff\xff\xff\xff"},
	{api.MaxAmount, "\x00\x00\x00\x00\x00\x00\x04\x00"},
	{0x0807060504030201, "\x01\x02\x03\x04\x05\x06\x07\x08"},
	{-0x0807060504030201, "\xff\xfd\xfc\xfb\xfa\xf9\xf8\xf7"},
	{greatest, "\xff\xff\xff\xff\xff\xff\xff\x7f"},
	{least, "\x00\x00\x00\x00\x00\x00\x00\x80"},
	{least + 1, "\x01\x00\x00\x00\x00\x00\x00\x80"},
}

// texts are some, with the two bytes that stand ahead.
var texts = []struct{ s, ahead string }{
	{"", "\x00\x00"},
	{"a", "\x01\x00"},
	{"\x00", "\x01\x00"},
	{"\x00\x00\x00", "\x03\x00"},
	{"hé", "\x03\x00"},
	{"\xff\xfe\x80 none of UTF-8", "\x11\x00"},
	{"two\nlines\r\n", "\x0b\x00"},
	{strings.Repeat("b", 127), "\x7f\x00"},
	{strings.Repeat("b", 128), "\x80\x00"},
	{strings.Repeat("b", 255), "\xff\x00"},
	{strings.Repeat("b", 256), "\x00\x01"},
	{strings.Repeat("b", 257), "\x01\x01"},
	{strings.Repeat("b", 32767), "\xff\x7f"},
	{strings.Repeat("b", 32768), "\x00\x80"},
	{strings.Repeat("é", 32767), "\xfe\xff"},
	{strings.Repeat("b", 65534), "\xfe\xff"},
	{strings.Repeat("b", 65535), "\xff\xff"},
}

// short is a text, or the beginning of a long one.
func short(s string) string {
	if len(s) > 40 {
		return s[:40] + ".."
	}
	return s
}

func checkBytes(t *testing.T, w *Writer, want string, we api.Errno) {
	t.Helper()
	// Twice: telling takes nothing away.
	for range 2 {
		if s, e := w.Bytes(); s != want || e != we {
			t.Fatalf("%d bytes, %q, %d, not %d bytes, %q, %d", len(s), short(s), e, len(want), short(want), we)
		}
	}
}

func checkEnd(t *testing.T, r *Reader, want api.Errno) {
	t.Helper()
	for range 2 {
		if e := r.End(); e != want {
			t.Fatalf("End: %d, not %d", e, want)
		}
	}
}

func checkInt(t *testing.T, r *Reader, want int64) {
	t.Helper()
	if n := r.Int(); n != want {
		t.Fatalf("Int: %d, not %d", n, want)
	}
}

func checkText(t *testing.T, r *Reader, want string) {
	t.Helper()
	if s := r.Text(); s != want {
		t.Fatalf("Text: %q, not %q", short(s), short(want))
	}
}

// checkCut tells whether r answers nothing any more, whatever is asked.
func checkCut(t *testing.T, r *Reader) {
	t.Helper()
	for range 3 {
		checkEnd(t, r, api.ErrCut)
		checkInt(t, r, 0)
		checkText(t, r, "")
		checkText(t, r, "")
		checkInt(t, r, 0)
	}
}

// P3.1, Writer.

func TestMostText(t *testing.T) {
	if MostText != 65535 {
		t.Error(MostText)
	}
}

func TestZeroWriterHasNothing(t *testing.T) {
	var w Writer
	checkBytes(t, &w, "", api.OK)
	checkBytes(t, &Writer{}, "", api.OK)
	checkBytes(t, new(Writer), "", api.OK)
}

func TestExample(t *testing.T) {
	checkBytes(t, new(Writer).Int(1).Text("a"), "\x01\x00\x00\x00\x00\x00\x00\x00"+"\x01\x00a", api.OK)
}

func TestNumbersAsBytes(t *testing.T) {
	for _, c := range numbers {
		checkBytes(t, new(Writer).Int(c.n), c.bytes, api.OK)
		r := Read(c.bytes)
		checkEnd(t, r, api.ErrForm)
		checkInt(t, r, c.n)
		checkEnd(t, r, api.OK)
	}
}

func TestTextsAsBytes(t *testing.T) {
	for _, c := range texts {
		checkBytes(t, new(Writer).Text(c.s), c.ahead+c.s, api.OK)
		r := Read(c.ahead + c.s)
		checkEnd(t, r, api.ErrForm)
		checkText(t, r, c.s)
		checkEnd(t, r, api.OK)
	}
}

func TestBehindOneAnother(t *testing.T) {
	w := new(Writer)
	var want strings.Builder
	for i, c := range texts {
		w.Text(c.s).Int(numbers[i].n)
		want.WriteString(c.ahead + c.s + numbers[i].bytes)
		// What is told in between stays, and more is put behind it.
		checkBytes(t, w, want.String(), api.OK)
	}
}

func TestBothTellTheWriter(t *testing.T) {
	w := new(Writer)
	long := strings.Repeat("a", MostText+1)
	if w.Int(1) != w || w.Text("a") != w || w.Text("") != w || w.Text(long) != w || w.Int(2) != w || w.Text("b") != w {
		t.Error("another one")
	}
}

func TestTextThatIsTooLong(t *testing.T) {
	for _, n := range []int{65536, 65537, 65536 + 255, 1 << 17, 1<<17 + 1, 1 << 20} {
		long := strings.Repeat("a", n)
		checkBytes(t, new(Writer).Text(long), "", api.ErrArg)
		// ahead of others, behind them, between them, and more than once
		checkBytes(t, new(Writer).Text(long).Int(1).Text("a"), "", api.ErrArg)
		checkBytes(t, new(Writer).Int(1).Text("a").Text(long), "", api.ErrArg)
		checkBytes(t, new(Writer).Text("").Text(long).Text(""), "", api.ErrArg)
		checkBytes(t, new(Writer).Text(long).Text(long), "", api.ErrArg)
	}
}

// The length is that of the bytes: fewer runes don't help, and one text is held against it, not all.
func TestTooLongIsOfBytesOfOneText(t *testing.T) {
	checkBytes(t, new(Writer).Text(strings.Repeat("é", 32768)), "", api.ErrArg)
	most := strings.Repeat("c", MostText)
	checkBytes(t, new(Writer).Text(most).Text(most), "\xff\xff"+most+"\xff\xff"+most, api.OK)
}

func TestTooLongStays(t *testing.T) {
	w := new(Writer).Int(7)
	checkBytes(t, w, numberOf(7), api.OK)
	w.Text(strings.Repeat("a", MostText+1))
	for range 3 {
		checkBytes(t, w, "", api.ErrArg)
		w.Int(1)
		checkBytes(t, w, "", api.ErrArg)
		w.Text("a")
	}
	// another one has nothing to do with it
	checkBytes(t, new(Writer).Int(7), numberOf(7), api.OK)
}

func TestNilWriter(t *testing.T) {
	var w *Writer
	checkBytes(t, w, "", api.ErrArg)
	for _, told := range []*Writer{w.Int(1), w.Text("a"), w.Text(""), w.Text(strings.Repeat("a", MostText+1)), w.Int(1).Text("a").Int(2)} {
		if told != nil {
			t.Error(told)
		}
		checkBytes(t, told, "", api.ErrArg)
	}
}

// P3.1, Reader.

func TestReadOfNothing(t *testing.T) {
	checkEnd(t, Read(""), api.OK)
	r := Read("")
	checkInt(t, r, 0)
	checkCut(t, r)
	r = Read("")
	checkText(t, r, "")
	checkCut(t, r)
	// one that nobody made has nothing either
	r = new(Reader)
	checkEnd(t, r, api.OK)
	checkText(t, r, "")
	checkCut(t, r)
}

func TestIntOfTooFew(t *testing.T) {
	for n := range 8 {
		r := Read(strings.Repeat("\xff", n))
		checkInt(t, r, 0)
		checkCut(t, r)
	}
}

func TestTextOfTooFew(t *testing.T) {
	for _, s := range []string{
		"", "\x00", "\x01", "\xff",
		"\x01\x00", "\x02\x00a", "\x09\x00abc", "\xff\x00abc", "\x00\x01abc", "\xff\xff",
		"\x00\x01" + strings.Repeat("a", 255),
		"\xff\xff" + strings.Repeat("a", 65534),
		// the higher byte first, it would be enough
		"\x00\x01a",
	} {
		r := Read(s)
		checkText(t, r, "")
		checkCut(t, r)
	}
}

// What is left ahead of where there were too few is not taken for anything else.
func TestNothingBehindTooFew(t *testing.T) {
	// seven bytes, of which a text could be taken
	r := Read("\x01\x00a\x02\x00bc")
	checkInt(t, r, 0)
	checkCut(t, r)
	// of a text that is cut the bytes behind its length are a number's, and a text's
	r = Read("\xff\x00" + "\x01\x00\x00\x00\x00\x00\x00\x00" + "\x01\x00a")
	checkText(t, r, "")
	checkCut(t, r)
	// its length too is a text's beginning
	r = Read("\x04\x00abc")
	checkText(t, r, "")
	checkCut(t, r)
	// what was taken ahead of it stays taken
	r = Read("\x01\x00a" + "\x05\x00" + "\x02\x00bc")
	checkText(t, r, "a")
	checkEnd(t, r, api.ErrForm)
	checkText(t, r, "")
	checkCut(t, r)
}

// With bytes left and too few once, it is ErrCut, which is named first.
func TestCutIsAheadOfForm(t *testing.T) {
	r := Read("\x01\x00a\x00")
	checkInt(t, r, 0)
	checkEnd(t, r, api.ErrCut)
	r = Read("\x01\x00a\x00")
	checkText(t, r, "a")
	checkEnd(t, r, api.ErrForm)
	checkText(t, r, "")
	checkEnd(t, r, api.ErrCut)
}

func TestSomeAreLeft(t *testing.T) {
	for n := 1; n < 12; n++ {
		r := Read(numberOf(-5) + strings.Repeat("\x00", n))
		checkInt(t, r, -5)
		checkEnd(t, r, api.ErrForm)
		r = Read("\x01\x00a" + strings.Repeat("\xff", n))
		checkText(t, r, "a")
		checkEnd(t, r, api.ErrForm)
	}
	// nothing was taken yet
	checkEnd(t, Read("\x00"), api.ErrForm)
}

// A number of 0 and a text without bytes are answers too, not signs of too few.
func TestNoughtIsTaken(t *testing.T) {
	r := Read(numberOf(0) + "\x00\x00" + numberOf(3) + "\x00\x00")
	checkInt(t, r, 0)
	checkText(t, r, "")
	checkEnd(t, r, api.ErrForm)
	checkInt(t, r, 3)
	checkText(t, r, "")
	checkEnd(t, r, api.OK)
}

// Bytes are taken as what is asked, whatever they were put as.
func TestTakenAsAnother(t *testing.T) {
	r := Read("\x06\x00abcdef")
	checkInt(t, r, 0x6665646362610006)
	checkEnd(t, r, api.OK)
	r = Read(numberOf(6))
	checkText(t, r, "\x00\x00\x00\x00\x00\x00")
	checkEnd(t, r, api.OK)
}

func TestNilReader(t *testing.T) {
	var r *Reader
	for range 2 {
		checkInt(t, r, 0)
		checkText(t, r, "")
		checkEnd(t, r, api.ErrArg)
	}
}

// P3.2: what was put is taken.

// item is a number or a text.
type item struct {
	n      int64
	s      string
	isText bool
}

// numberOf is a number's bytes, by Go's own library.
func numberOf(n int64) string {
	return string(binary.LittleEndian.AppendUint64(nil, uint64(n)))
}

// bytesOf is items' bytes, by Go's own library.
func bytesOf(l []item) string {
	var all []byte
	for _, x := range l {
		if x.isText {
			all = binary.LittleEndian.AppendUint16(all, uint16(len(x.s)))
			all = append(all, x.s...)
		} else {
			all = binary.LittleEndian.AppendUint64(all, uint64(x.n))
		}
	}
	return string(all)
}

func anyText(r *rand.Rand, most int) string {
	l := make([]byte, r.IntN(most+1))
	for i := range l {
		l[i] = byte(r.Uint32())
	}
	return string(l)
}

func anyItems(r *rand.Rand, most int) []item {
	l := make([]item, r.IntN(12))
	for i := range l {
		if r.IntN(2) == 0 {
			l[i] = item{n: int64(r.Uint64()) >> r.IntN(64)}
		} else {
			l[i] = item{s: anyText(r, most), isText: true}
		}
	}
	return l
}

func put(w *Writer, l []item) *Writer {
	for _, x := range l {
		if x.isText {
			w.Text(x.s)
		} else {
			w.Int(x.n)
		}
	}
	return w
}

func checkTaken(t *testing.T, r *Reader, l []item) {
	t.Helper()
	for _, x := range l {
		if x.isText {
			checkText(t, r, x.s)
		} else {
			checkInt(t, r, x.n)
		}
	}
}

func TestWhatWasPutIsTaken(t *testing.T) {
	r := rand.New(rand.NewPCG(1, 2))
	for i := range 3000 {
		most := 30
		if i%100 == 0 {
			most = MostText
		}
		l := anyItems(r, most)
		w := put(new(Writer), l)
		checkBytes(t, w, bytesOf(l), api.OK)
		s, _ := w.Bytes()
		taken := Read(s)
		checkTaken(t, taken, l)
		checkEnd(t, taken, api.OK)
	}
}

// Of bytes that end too soon, at each place: what is whole is taken, and from there on nothing.
func TestWhatWasPutIsCut(t *testing.T) {
	r := rand.New(rand.NewPCG(3, 4))
	for range 300 {
		l := anyItems(r, 9)
		s := bytesOf(l)
		for n := range len(s) {
			whole := 0
			for len(bytesOf(l[:whole+1])) <= n {
				whole++
			}
			taken := Read(s[:n])
			checkTaken(t, taken, l[:whole])
			// zero values, of all that comes behind
			for _, x := range l[whole:] {
				checkTaken(t, taken, []item{{isText: x.isText}})
				checkEnd(t, taken, api.ErrCut)
			}
			checkCut(t, taken)
		}
	}
}

func TestWhatWasPutAndMore(t *testing.T) {
	r := rand.New(rand.NewPCG(5, 6))
	for range 1000 {
		l := anyItems(r, 9)
		taken := Read(bytesOf(l) + anyText(r, 5) + "\x00")
		checkTaken(t, taken, l)
		checkEnd(t, taken, api.ErrForm)
	}
}

// P1: at any bytes, and in any order of calls, each call ends; P2: and the same calls answer the same.

// anyCalls asks as r's numbers say, and is what was answered.
func anyCalls(r *rand.Rand, s string) []item {
	taken := Read(s)
	var l []item
	for range 12 {
		switch r.IntN(3) {
		case 0:
			l = append(l, item{n: taken.Int()})
		case 1:
			l = append(l, item{s: taken.Text(), isText: true})
		default:
			l = append(l, item{n: int64(taken.End())})
		}
	}
	return l
}

func TestAnyBytes(t *testing.T) {
	r := rand.New(rand.NewPCG(7, 8))
	for i := range uint64(3000) {
		s := anyText(r, 60)
		a := anyCalls(rand.New(rand.NewPCG(9, i)), s)
		b := anyCalls(rand.New(rand.NewPCG(9, i)), s)
		for k := range a {
			if a[k] != b[k] {
				t.Fatalf("%q: %v, and %v", s, a[k], b[k])
			}
		}
	}
}

// Two that are told in turns don't hear of one another.
func TestOthersAreNotHeard(t *testing.T) {
	v, w := new(Writer), new(Writer)
	for i := range int64(20) {
		v.Int(i).Text("v")
		w.Text("w").Int(-i)
	}
	var vs, ws []item
	for i := range int64(20) {
		vs = append(vs, item{n: i}, item{s: "v", isText: true})
		ws = append(ws, item{s: "w", isText: true}, item{n: -i})
	}
	checkBytes(t, v, bytesOf(vs), api.OK)
	checkBytes(t, w, bytesOf(ws), api.OK)
	s := bytesOf(vs)
	a, b := Read(s), Read(s)
	for i := range int64(20) {
		checkInt(t, a, i)
		checkText(t, a, "v")
	}
	checkEnd(t, a, api.OK)
	checkTaken(t, b, vs)
	checkEnd(t, b, api.OK)
}

// Nor does one that was copied, and its copy, whichever is told more first.
func TestCopiesAreNotHeard(t *testing.T) {
	for n := range 40 {
		w := new(Writer)
		want := ""
		for range n {
			w.Text("x")
			want += "\x01\x00x"
		}
		v := *w
		u := *w
		w.Text("one")
		v.Text("two").Int(2)
		u.Text(strings.Repeat("a", MostText+1))
		checkBytes(t, w, want+"\x03\x00one", api.OK)
		checkBytes(t, &v, want+"\x03\x00two"+numberOf(2), api.OK)
		checkBytes(t, &u, "", api.ErrArg)
	}
	r := Read("\x01\x00a\x01\x00b")
	c := *r
	checkText(t, r, "a")
	checkText(t, r, "b")
	checkInt(t, r, 0)
	checkText(t, &c, "a")
	checkEnd(t, &c, api.ErrForm)
	checkText(t, &c, "b")
	checkEnd(t, &c, api.OK)
}

// Many items: what is put is not gone through again with each.
func TestMany(t *testing.T) {
	const many = 300000
	w := new(Writer)
	for i := range int64(many) {
		w.Int(i)
	}
	s, e := w.Bytes()
	if e != api.OK || len(s) != 8*many {
		t.Fatal(len(s), e)
	}
	r := Read(s)
	for i := range int64(many) {
		checkInt(t, r, i)
	}
	checkEnd(t, r, api.OK)
}
