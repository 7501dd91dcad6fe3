package claw

import (
	"math"
	"math/big"
	"math/rand/v2"
	"slices"
	"testing"

	"souk/api"
)

const greatest, least = math.MaxInt64, math.MinInt64

// list is its numbers; none is nil.
func list(n ...int64) []int64 {
	return n
}

// wantTake holds what is taken of each, by Take, and by Refund of a sale of which as much is left.
func wantTake(t *testing.T, left []int64, amount int64, want ...int64) {
	t.Helper()
	if p, e := Take(left, amount); e != api.OK || !slices.Equal(p, want) {
		t.Errorf("Take(%v, %d) = %v, %d, want %v", left, amount, p, e, want)
	}
	s := &Sale{Left: slices.Clone(left)}
	if p, e := s.Refund(amount); e != api.OK || !slices.Equal(p, want) {
		t.Errorf("Refund(%d) of %v = %v, %d, want %v", amount, left, p, e, want)
	}
	wantLeft(t, s, less(left, want)...)
}

// wantNoTake holds that nothing is taken, by Take, nor by Refund, and that nothing is changed.
func wantNoTake(t *testing.T, left []int64, amount int64, want api.Errno) {
	t.Helper()
	if p, e := Take(left, amount); e != want || len(p) != 0 {
		t.Errorf("Take(%v, %d) = %v, %d, want %d alone", left, amount, p, e, want)
	}
	s := &Sale{Left: slices.Clone(left)}
	if p, e := s.Refund(amount); e != want || len(p) != 0 {
		t.Errorf("Refund(%d) of %v = %v, %d, want %d alone", amount, left, p, e, want)
	}
	wantLeft(t, s, left...)
}

// wantLeft holds what is left of a sale.
func wantLeft(t *testing.T, s *Sale, want ...int64) {
	t.Helper()
	if !slices.Equal(s.Left, want) {
		t.Errorf("left is %v, want %v", s.Left, want)
	}
}

// wantUndo holds that l may be given back to a sale of left, and what is left of it then.
func wantUndo(t *testing.T, left, l []int64, want ...int64) {
	t.Helper()
	s := &Sale{Left: slices.Clone(left)}
	if e := s.Undo(l...); e != api.OK {
		t.Errorf("Undo(%v) of %v = %d", l, left, e)
	}
	wantLeft(t, s, want...)
}

// wantNoUndo holds that l may not be given back, and that nothing is changed.
func wantNoUndo(t *testing.T, left, l []int64, want api.Errno) {
	t.Helper()
	s := &Sale{Left: slices.Clone(left)}
	if e := s.Undo(l...); e != want {
		t.Errorf("Undo(%v) of %v = %d, want %d", l, left, e, want)
	}
	wantLeft(t, s, left...)
}

// less is what is left behind what was taken.
func less(left, taken []int64) []int64 {
	l := slices.Clone(left)
	for i := range min(len(l), len(taken)) {
		l[i] -= taken[i]
	}
	return l
}

// times is n, so often.
func times(n int64, often int) []int64 {
	return slices.Repeat(list(n), often)
}

// with is l with n in a place.
func with(l []int64, place int, n int64) []int64 {
	l = slices.Clone(l)
	l[place] = n
	return l
}

// The examples.

func TestTheExample(t *testing.T) {
	wantTake(t, list(10, 30), 4, 1, 3)
}

func TestAFeeATaxAndParts(t *testing.T) {
	s := &Sale{Left: list(50, 10, 705, 235)}
	p, e := s.Refund(500)
	if e != api.OK || !slices.Equal(p, list(25, 5, 353, 117)) {
		t.Error(p, e)
	}
	wantLeft(t, s, 25, 5, 352, 118)
	q, e := s.Refund(500)
	if e != api.OK || !slices.Equal(q, list(25, 5, 352, 118)) {
		t.Error(q, e)
	}
	wantLeft(t, s, 0, 0, 0, 0)
	if e := s.Undo(p...); e != api.OK {
		t.Error(e)
	}
	wantLeft(t, s, p...)
}

// Take.

func TestTakeOfNothing(t *testing.T) {
	behind := list(5, 6, 7)
	for _, left := range [][]int64{nil, {}, behind[:0], behind[1:1], behind[3:]} {
		for _, n := range []int64{1, 2, 7, 1 << 50, greatest} {
			wantNoTake(t, left, n, api.ErrMore)
		}
		for _, n := range []int64{0, -1, -2, least} {
			wantNoTake(t, left, n, api.ErrArg)
		}
	}
}

func TestTakeOfOne(t *testing.T) {
	for _, left := range []int64{1, 2, 3, 100, 1 << 50, 1<<62 + 1, greatest - 1, greatest} {
		for _, n := range []int64{1, left/2 + 1, left - 1, left} {
			if n > 0 {
				wantTake(t, list(left), n, n)
				wantTake(t, list(0, left), n, 0, n)
				wantTake(t, list(left, 0), n, n, 0)
			}
		}
		if left < greatest {
			wantNoTake(t, list(left), left+1, api.ErrMore)
		}
	}
}

func TestTakeOfMany(t *testing.T) {
	// What is left divides the amount.
	wantTake(t, list(10, 20, 30), 6, 1, 2, 3)
	wantTake(t, list(30, 20, 10), 12, 6, 4, 2)
	wantTake(t, times(7, 8), 8, times(1, 8)...)
	// It doesn't: what is over is taken of those of which the rounding took most.
	wantTake(t, list(10, 2, 88), 50, 5, 1, 44)
	wantTake(t, list(5, 1, 44), 3, 0, 0, 3)
	wantTake(t, list(1, 2), 1, 0, 1)
	wantTake(t, list(2, 1), 1, 1, 0)
	wantTake(t, list(1, 2, 3, 4, 5), 10, 1, 1, 2, 3, 3)
	// As much was taken: of the first ones.
	wantTake(t, list(1, 1), 1, 1, 0)
	wantTake(t, list(5, 5, 5), 10, 4, 3, 3)
	wantTake(t, list(5, 5, 5), 11, 4, 4, 3)
	wantTake(t, list(5, 3, 3, 5), 2, 1, 0, 0, 1)
	for n := int64(1); n <= 80; n++ {
		var want []int64
		for i := range int64(8) {
			want = append(want, (n+7-i)/8)
		}
		wantTake(t, times(10, 8), n, want...)
		wantTake(t, times(1<<59, 8), n, want...)
	}
	// There may be far more of them than a sale has.
	wantTake(t, times(1, 3000), 1000, append(times(1, 1000), times(0, 2000)...)...)
	wantTake(t, times(3, 3000), 9000, times(3, 3000)...)
	wantNoTake(t, times(3, 3000), 9001, api.ErrMore)
}

func TestTakeOfSomeThatAre0(t *testing.T) {
	wantTake(t, list(0, 10, 0, 30, 0), 4, 0, 1, 0, 3, 0)
	wantTake(t, list(0, 0, 1), 1, 0, 0, 1)
	wantTake(t, list(1, 0, 0), 1, 1, 0, 0)
	wantTake(t, list(0, 5, 5, 0), 1, 0, 1, 0, 0)
	wantTake(t, list(0, greatest, 0), greatest, 0, greatest, 0)
	wantTake(t, list(greatest, 0, 0), 1, 1, 0, 0)
	wantNoTake(t, list(0, 10, 0, 30, 0), 41, api.ErrMore)
}

func TestTakeOfNothingBut0(t *testing.T) {
	for often := 1; often < 12; often++ {
		for _, n := range []int64{1, 2, greatest} {
			wantNoTake(t, times(0, often), n, api.ErrMore)
		}
		for _, n := range []int64{0, -1, least} {
			wantNoTake(t, times(0, often), n, api.ErrArg)
		}
	}
}

// below0 are numbers that none may be.
var below0 = []int64{-1, -2, -10, -1 << 50, -greatest, least}

func TestTakeOfOneBelow0(t *testing.T) {
	for _, bad := range below0 {
		for often := 1; often <= 9; often++ {
			for place := range often {
				for _, other := range []int64{0, 1, 10, 1 << 50, greatest} {
					for _, n := range []int64{least, -1, 0, 1, 2, 10, greatest} {
						wantNoTake(t, with(times(other, often), place, bad), n, api.ErrArg)
					}
				}
			}
		}
	}
	// Together they may leave enough, or nothing, or less: each one counts.
	wantNoTake(t, list(-1, 5), 1, api.ErrArg)
	wantNoTake(t, list(5, -1, 5), 1, api.ErrArg)
	wantNoTake(t, list(5, -5), 1, api.ErrArg)
	wantNoTake(t, list(-3, 1), 1, api.ErrArg)
	wantNoTake(t, list(-3, -3, -3), 1, api.ErrArg)
}

func TestAmountsAtTheirEdges(t *testing.T) {
	for _, left := range [][]int64{{1}, {40}, {10, 30}, {0, 40, 0}, {13, 13, 14}, {1 << 60, 1 << 61, 5}} {
		all := int64(0)
		for _, n := range left {
			all += n
		}
		for _, n := range []int64{0, -1, -2, -all, -greatest, least} {
			wantNoTake(t, left, n, api.ErrArg)
		}
		wantTake(t, left, all, left...)
		for _, n := range []int64{all + 1, all + 2, 2 * all, greatest - 1, greatest} {
			wantNoTake(t, left, n, api.ErrMore)
		}
		// Of 1 it is the greatest, or the first of those, that gives it.
		want := times(0, len(left))
		want[slices.Index(left, slices.Max(left))] = 1
		wantTake(t, left, 1, want...)
		// And of one less than all there is one that keeps it.
		p, e := Take(left, all-1)
		if all > 1 && (e != api.OK || differ(left, p) != 1) {
			t.Errorf("Take(%v, %d) = %v, %d", left, all-1, p, e)
		}
	}
}

// differ is how many of two lists' numbers differ.
func differ(a, b []int64) int {
	n := 0
	for i := range a {
		if a[i] != b[i] {
			n++
		}
	}
	return n
}

func TestSumsAtTheGreatest(t *testing.T) {
	// Just the greatest: all of it may be taken.
	just := [][]int64{{greatest}, {greatest - 1, 1}, {1, greatest - 1}, {0, greatest}, {1 << 62, 1<<62 - 1}, {1 << 61, 1 << 61, 1 << 61, 1<<61 - 1}, {greatest - 5, 1, 1, 1, 1, 1}}
	for _, left := range just {
		wantTake(t, left, greatest, left...)
		for _, n := range []int64{1, 2, 1 << 62, greatest - 1} {
			holdAgainstModel(t, left, n)
		}
		for _, n := range []int64{0, -1, least} {
			wantNoTake(t, left, n, api.ErrArg)
		}
		// One above, wherever it is.
		for place, n := range left {
			if n < greatest {
				for _, amount := range []int64{1, 2, greatest - 1, greatest} {
					wantNoTake(t, with(left, place, n+1), amount, api.ErrOver)
				}
			}
			for _, amount := range []int64{1, greatest} {
				wantNoTake(t, slices.Insert(slices.Clone(left), place, 1), amount, api.ErrOver)
			}
		}
	}
	// Far above, so that a sum that wraps round comes back to where it may be.
	for _, left := range [][]int64{{greatest, greatest}, {greatest, greatest, 2}, {greatest, greatest, 3}, {greatest, greatest, greatest, greatest}, {1 << 62, 1 << 62, 1 << 62, 1 << 62}, {1 << 62, 1 << 62, 1 << 62, 1 << 62, 7}, times(1<<60, 16), times(1<<60, 17), times(1<<60, 24)} {
		for _, n := range []int64{1, 2, 7, 1 << 60, greatest} {
			wantNoTake(t, left, n, api.ErrOver)
		}
	}
}

func TestWhichErrorIsTheFirst(t *testing.T) {
	over := list(greatest, 1)
	// An amount below 1 comes ahead of a sum that runs over, and of more than is left.
	for _, n := range []int64{0, -1, least} {
		wantNoTake(t, over, n, api.ErrArg)
		wantNoTake(t, nil, n, api.ErrArg)
		wantNoTake(t, list(-1, greatest, greatest), n, api.ErrArg)
	}
	// So does one below 0, wherever it stands.
	for _, left := range [][]int64{{-1, greatest, greatest}, {greatest, -1, greatest}, {greatest, greatest, -1}, {greatest, 1, least}, {greatest, greatest, greatest, least}} {
		for _, n := range []int64{1, greatest} {
			wantNoTake(t, left, n, api.ErrArg)
		}
	}
	wantNoTake(t, list(3, -1), 10, api.ErrArg)
	wantNoTake(t, list(-1), 1, api.ErrArg)
	// A sum that runs over has no more than itself.
	wantNoTake(t, over, greatest, api.ErrOver)
	wantNoTake(t, over, 1, api.ErrOver)
}

// Refund.

func TestRefundsOneBehindTheOther(t *testing.T) {
	s := &Sale{Left: list(10, 2, 88)}
	for i, c := range []struct {
		amount      int64
		taken, left []int64
	}{
		{50, list(5, 1, 44), list(5, 1, 44)},
		{3, list(0, 0, 3), list(5, 1, 41)},
		{1, list(0, 0, 1), list(5, 1, 40)},
		{23, list(3, 0, 20), list(2, 1, 20)},
		{22, list(2, 1, 19), list(0, 0, 1)},
		{1, list(0, 0, 1), list(0, 0, 0)},
	} {
		p, e := s.Refund(c.amount)
		if e != api.OK || !slices.Equal(p, c.taken) {
			t.Errorf("%d: Refund(%d) = %v, %d, want %v", i, c.amount, p, e, c.taken)
		}
		wantLeft(t, s, c.left...)
	}
	for _, n := range []int64{1, 2, 100, greatest} {
		if p, e := s.Refund(n); e != api.ErrMore || len(p) != 0 {
			t.Errorf("Refund(%d) of nothing = %v, %d", n, p, e)
		}
		wantLeft(t, s, 0, 0, 0)
	}
}

func TestRefundsOneByOne(t *testing.T) {
	for _, left := range [][]int64{{1}, {10, 30}, {10, 2, 88}, {0, 7, 0, 3}, {5, 5, 5, 5, 5, 5, 5, 5, 5, 5}, {50, 10, 705, 235}} {
		s := &Sale{Left: slices.Clone(left)}
		all := sum(left)
		for n := range all {
			p, e := s.Refund(1)
			if e != api.OK || sum(p) != 1 || slices.Min(p) < 0 || sum(s.Left) != all-n-1 || slices.Min(s.Left) < 0 {
				t.Fatalf("Refund(1) number %d of %v = %v, %d, and %v are left", n, left, p, e, s.Left)
			}
		}
		wantLeft(t, s, times(0, len(left))...)
		if p, e := s.Refund(1); e != api.ErrMore || len(p) != 0 {
			t.Errorf("Refund(1) of nothing = %v, %d", p, e)
		}
	}
}

// sum is that of small numbers.
func sum(l []int64) int64 {
	n := int64(0)
	for _, k := range l {
		n += k
	}
	return n
}

// What an error leaves behind may go on as if nothing had been asked.
func TestRefundsBehindErrors(t *testing.T) {
	s := &Sale{Left: list(10, 30)}
	for range 3 {
		for _, c := range []struct {
			amount int64
			want   api.Errno
		}{{0, api.ErrArg}, {-1, api.ErrArg}, {least, api.ErrArg}, {41, api.ErrMore}, {greatest, api.ErrMore}} {
			if p, e := s.Refund(c.amount); e != c.want || len(p) != 0 {
				t.Errorf("Refund(%d) = %v, %d, want %d alone", c.amount, p, e, c.want)
			}
			wantLeft(t, s, 10, 30)
		}
		p, e := s.Refund(4)
		if e != api.OK || !slices.Equal(p, list(1, 3)) {
			t.Error(p, e)
		}
		wantLeft(t, s, 9, 27)
		if e := s.Undo(p...); e != api.OK {
			t.Error(e)
		}
		wantLeft(t, s, 10, 30)
	}
}

// What is left now is what counts, not what was left at first, nor what was asked ahead.
func TestRefundsOfALeftThatWasSet(t *testing.T) {
	s := &Sale{Left: list(10, 30)}
	if p, e := s.Refund(4); e != api.OK || !slices.Equal(p, list(1, 3)) {
		t.Error(p, e)
	}
	s.Left = list(1, 1, 1)
	if p, e := s.Refund(2); e != api.OK || !slices.Equal(p, list(1, 1, 0)) {
		t.Error(p, e)
	}
	wantLeft(t, s, 0, 0, 1)
	s.Left[0] = 4
	if p, e := s.Refund(5); e != api.OK || !slices.Equal(p, list(4, 0, 1)) {
		t.Error(p, e)
	}
	s.Left[1] = -1
	if p, e := s.Refund(1); e != api.ErrArg || len(p) != 0 {
		t.Error(p, e)
	}
	wantLeft(t, s, 0, -1, 0)
	s.Left = nil
	if p, e := s.Refund(1); e != api.ErrMore || len(p) != 0 {
		t.Error(p, e)
	}
}

// Undo.

func TestUndoOfWhatWasTaken(t *testing.T) {
	for _, left := range [][]int64{{1}, {40}, {10, 30}, {10, 2, 88}, {0, 7, 0, 3}, {greatest - 1, 1}, {1 << 62, 1<<62 - 1}, {50, 10, 705, 235}} {
		all := sum(left)
		for _, n := range []int64{1, 2, 3, all / 3, all / 2, all - 1, all} {
			if n < 1 || n > all {
				continue
			}
			s := &Sale{Left: slices.Clone(left)}
			p, e := s.Refund(n)
			if e != api.OK {
				t.Fatal(e)
			}
			if e := s.Undo(p...); e != api.OK {
				t.Errorf("Undo(%v) = %d", p, e)
			}
			wantLeft(t, s, left...)
			// It says what there is, not what was taken: once more adds once more.
			if n < greatest/2 && all < greatest/2 {
				if e := s.Undo(p...); e != api.OK {
					t.Errorf("Undo(%v) once more = %d", p, e)
				}
				for i := range p {
					if s.Left[i] != left[i]+p[i] {
						t.Errorf("left is %v, want %v and %v", s.Left, left, p)
					}
				}
			}
		}
	}
}

// Of several that were taken each may be given back ahead of the others.
func TestUndoOfTheFirstOfSeveral(t *testing.T) {
	for turn := range 3 {
		s := &Sale{Left: list(10, 2, 88)}
		var taken [][]int64
		for _, n := range []int64{50, 3, 20} {
			p, e := s.Refund(n)
			if e != api.OK {
				t.Fatal(e)
			}
			taken = append(taken, p)
		}
		want := slices.Clone(s.Left)
		for k := range 3 {
			p := taken[(turn+k)%3]
			if e := s.Undo(p...); e != api.OK {
				t.Error(e)
			}
			for i, n := range p {
				want[i] += n
			}
			wantLeft(t, s, want...)
		}
		wantLeft(t, s, 10, 2, 88)
	}
	// And what is taken behind that is by what is left now.
	s := &Sale{Left: list(10, 2, 88)}
	a, _ := s.Refund(50)
	b, _ := s.Refund(3)
	if e := s.Undo(a...); e != api.OK || !slices.Equal(b, list(0, 0, 3)) {
		t.Error(e, b)
	}
	wantLeft(t, s, 10, 2, 85)
	if p, e := s.Refund(97); e != api.OK || !slices.Equal(p, list(10, 2, 85)) {
		t.Error(p, e)
	}
	wantLeft(t, s, 0, 0, 0)
}

func TestUndoOfNumbers(t *testing.T) {
	wantUndo(t, list(0), list(0), 0)
	wantUndo(t, list(0, 0), list(1, 3), 1, 3)
	wantUndo(t, list(10, 30), list(0, 0), 10, 30)
	wantUndo(t, list(10, 30), list(5, 0), 15, 30)
	wantUndo(t, list(10, 30), list(0, 5), 10, 35)
	wantUndo(t, list(0, greatest), list(greatest, 0), greatest, greatest)
	wantUndo(t, list(greatest-1, 1), list(1, greatest-1), greatest, greatest)
	// Each one counts for itself: together they may be more than the greatest.
	wantUndo(t, list(1, 1, 1), list(greatest-1, greatest-1, greatest-1), greatest, greatest, greatest)
	wantUndo(t, times(1<<62, 9), times(1<<62-1, 9), times(greatest, 9)...)
	wantUndo(t, times(1, 3000), times(2, 3000), times(3, 3000)...)
	// Of what is left only the sum counts.
	wantUndo(t, list(-5, 3), list(2, 1), -3, 4)
	wantUndo(t, list(least), list(greatest), -1)
	wantUndo(t, list(least, -1), list(0, 1), least, 0)
}

func TestUndoOfNothing(t *testing.T) {
	for _, left := range [][]int64{nil, {}} {
		wantUndo(t, left, nil)
		wantUndo(t, left, list())
		wantUndo(t, left, times(7, 3)[:0])
		for _, l := range [][]int64{{0}, {1}, {-1}, {0, 0}, {greatest, greatest}} {
			wantNoUndo(t, left, l, api.ErrArg)
		}
	}
	s := &Sale{Left: list(1, 2)}
	if e := s.Undo(); e != api.ErrArg {
		t.Error(e)
	}
	wantLeft(t, s, 1, 2)
}

func TestUndoOfTooFewAndTooMany(t *testing.T) {
	for has := range 12 {
		for n := range 14 {
			for _, each := range []int64{0, 1, 5, greatest - 3} {
				left, l := times(3, has), times(each, n)
				if n == has {
					wantUndo(t, left, l, times(3+each, n)...)
				} else {
					wantNoUndo(t, left, l, api.ErrArg)
				}
			}
			// How many there are comes ahead of their sums.
			if n != has {
				wantNoUndo(t, times(3, has), times(greatest, n), api.ErrArg)
				wantNoUndo(t, times(greatest, has), times(1, n), api.ErrArg)
			}
		}
	}
}

func TestUndoOfOneBelow0(t *testing.T) {
	for _, bad := range below0 {
		for often := 1; often <= 9; often++ {
			for place := range often {
				for _, other := range []int64{0, 1, 1 << 50, greatest} {
					wantNoUndo(t, times(5, often), with(times(other, often), place, bad), api.ErrArg)
					wantNoUndo(t, times(0, often), with(times(other, often), place, bad), api.ErrArg)
					wantNoUndo(t, times(greatest, often), with(times(other, often), place, bad), api.ErrArg)
					wantNoUndo(t, times(least, often), with(times(other, often), place, bad), api.ErrArg)
				}
			}
		}
	}
}

func TestUndoThatRunsOver(t *testing.T) {
	for often := 1; often <= 9; often++ {
		for place := range often {
			for _, c := range [][2]int64{{1, greatest}, {greatest, 1}, {2, greatest - 1}, {1 << 62, 1 << 62}, {greatest, greatest}, {1 << 50, greatest - 1<<50 + 1}} {
				left, l := with(times(3, often), place, c[0]), with(times(4, often), place, c[1])
				wantNoUndo(t, left, l, api.ErrOver)
				wantUndo(t, left, with(l, place, greatest-c[0]), with(times(7, often), place, greatest)...)
				// Where another one is below 0 that comes first, wherever it stands.
				for k := range often {
					if k != place {
						for _, bad := range below0 {
							wantNoUndo(t, left, with(l, k, bad), api.ErrArg)
						}
						// Another sum that runs over changes nothing.
						wantNoUndo(t, with(left, k, 1), with(l, k, greatest), api.ErrOver)
					}
				}
			}
		}
	}
	s := &Sale{Left: list(10, 2, 85)}
	for _, l := range [][]int64{{greatest, 0, 0}, {0, greatest, 0}, {0, 0, greatest}, {greatest, greatest, greatest}, {1, 1, greatest - 84}, {greatest - 9, 1, 1}} {
		if e := s.Undo(l...); e != api.ErrOver {
			t.Errorf("Undo(%v) = %d", l, e)
		}
		wantLeft(t, s, 10, 2, 85)
	}
}

// Nothing, and no sale.

func TestANilSale(t *testing.T) {
	var s *Sale
	for _, n := range []int64{least, -1, 0, 1, 40, greatest} {
		if p, e := s.Refund(n); e != api.ErrArg || len(p) != 0 {
			t.Errorf("Refund(%d) on nil = %v, %d", n, p, e)
		}
	}
	for _, l := range [][]int64{nil, {}, {0}, {1}, {-1}, {1, 3}, {greatest, greatest}} {
		if e := s.Undo(l...); e != api.ErrArg {
			t.Errorf("Undo(%v) on nil = %d", l, e)
		}
	}
}

func TestASaleOfNothing(t *testing.T) {
	for _, s := range []*Sale{{}, new(Sale), {Left: list()}, {Left: []int64{}}} {
		for range 3 {
			if p, e := s.Refund(1); e != api.ErrMore || len(p) != 0 {
				t.Errorf("Refund(1) of nothing = %v, %d", p, e)
			}
			for _, n := range []int64{0, -1, least} {
				if p, e := s.Refund(n); e != api.ErrArg || len(p) != 0 {
					t.Errorf("Refund(%d) of nothing = %v, %d", n, p, e)
				}
			}
			if e := s.Undo(); e != api.OK {
				t.Errorf("Undo() of nothing = %d", e)
			}
			if e := s.Undo(0); e != api.ErrArg {
				t.Errorf("Undo(0) of nothing = %d", e)
			}
			wantLeft(t, s)
		}
	}
}

// P13.1 against a model of numbers of any size.

// modelTake is Take, by numbers of any size; what is over is taken one by one.
func modelTake(left []int64, amount int64) ([]int64, api.Errno) {
	all := new(big.Int)
	for _, n := range left {
		if n < 0 {
			return nil, api.ErrArg
		}
		all.Add(all, big.NewInt(n))
	}
	switch {
	case amount < 1:
		return nil, api.ErrArg
	case !all.IsInt64():
		return nil, api.ErrOver
	case amount > all.Int64():
		return nil, api.ErrMore
	}
	parts, rounded := make([]int64, len(left)), make([]int64, len(left))
	over := amount
	for i, n := range left {
		q, r := new(big.Int).QuoRem(new(big.Int).Mul(big.NewInt(amount), big.NewInt(n)), all, new(big.Int))
		parts[i], rounded[i] = q.Int64(), r.Int64()
		over -= parts[i]
	}
	for ; over > 0; over-- {
		i := slices.Index(rounded, slices.Max(rounded))
		parts[i]++
		rounded[i] = -1
	}
	return parts, api.OK
}

// modelUndo is what is left behind Undo.
func modelUndo(left, l []int64) ([]int64, api.Errno) {
	if len(left) != len(l) || len(l) > 0 && slices.Min(l) < 0 {
		return left, api.ErrArg
	}
	var more []int64
	for i, n := range l {
		k := new(big.Int).Add(big.NewInt(left[i]), big.NewInt(n))
		if !k.IsInt64() {
			return left, api.ErrOver
		}
		more = append(more, k.Int64())
	}
	return more, api.OK
}

// wantWhole holds P13.2: of none more is taken than is left, and what is taken together is the amount.
func wantWhole(t *testing.T, left []int64, amount int64, taken []int64) {
	t.Helper()
	if len(taken) != len(left) {
		t.Fatalf("Take(%v, %d) = %v: not as many", left, amount, taken)
	}
	all := new(big.Int)
	for i, n := range taken {
		all.Add(all, big.NewInt(n))
		if n < 0 || n > left[i] {
			t.Fatalf("Take(%v, %d) = %v: %d of %d", left, amount, taken, n, left[i])
		}
	}
	if all.Cmp(big.NewInt(amount)) != 0 {
		t.Fatalf("Take(%v, %d) = %v: %d together", left, amount, taken, all)
	}
}

// holdAgainstModel also answers the error.
func holdAgainstModel(t *testing.T, left []int64, amount int64) api.Errno {
	t.Helper()
	want, wantE := modelTake(left, amount)
	p, e := Take(left, amount)
	if e != wantE || !slices.Equal(p, want) {
		t.Fatalf("Take(%v, %d) = %v, %d, want %v, %d", left, amount, p, e, want, wantE)
	}
	s := &Sale{Left: slices.Clone(left)}
	q, f := s.Refund(amount)
	if f != e || !slices.Equal(q, p) || !slices.Equal(s.Left, less(left, want)) {
		t.Fatalf("Refund(%d) of %v = %v, %d, want %v, %d, and %v are left", amount, left, q, f, want, wantE, s.Left)
	}
	if e == api.OK {
		wantWhole(t, left, amount, p)
		if s.Undo(p...) != api.OK || !slices.Equal(s.Left, left) {
			t.Fatalf("Undo(%v) leaves %v, want %v", p, s.Left, left)
		}
	}
	return e
}

// holdUndoAgainstModel also answers the error.
func holdUndoAgainstModel(t *testing.T, left, l []int64) api.Errno {
	t.Helper()
	s := &Sale{Left: slices.Clone(left)}
	e := s.Undo(l...)
	if want, wantE := modelUndo(left, l); e != wantE || !slices.Equal(s.Left, want) {
		t.Fatalf("Undo(%v) of %v = %d, and %v are left, want %d, %v", l, left, e, s.Left, wantE, want)
	}
	return e
}

// eachList calls f with each list of up to so many of some numbers.
func eachList(most int, numbers []int64, f func(l []int64)) {
	var all func(l []int64)
	all = func(l []int64) {
		f(l)
		for i := 0; len(l) < most && i < len(numbers); i++ {
			all(append(slices.Clone(l), numbers[i]))
		}
	}
	all(nil)
}

func TestEachShortList(t *testing.T) {
	amounts := list(-1, 0, 1, 2, 3, 4, 5, 7, 9, 10, 11, 12, 1<<62, greatest)
	eachList(4, list(0, 1, 2, 3, 4, 7, -1, 1<<62, greatest, least), func(l []int64) {
		for _, n := range amounts {
			holdAgainstModel(t, l, n)
		}
	})
}

// Each amount of each list of small numbers.
func TestSmallNumbers(t *testing.T) {
	eachList(5, list(0, 1, 2, 3, 5), func(l []int64) {
		for n := range sum(l) + 2 {
			holdAgainstModel(t, l, n)
		}
	})
}

// Each number at its edges, beside each other.
func TestAllEdgesTogether(t *testing.T) {
	edges := list(least, least+1, -1, 0, 1, 2, 1<<62-1, 1<<62, greatest-1, greatest)
	eachList(3, edges, func(l []int64) {
		for _, n := range edges {
			holdAgainstModel(t, l, n)
		}
	})
	eachList(2, edges, func(left []int64) {
		eachList(2, edges, func(l []int64) {
			holdUndoAgainstModel(t, left, l)
		})
	})
	eachList(3, list(0, 1, greatest), func(left []int64) {
		eachList(3, list(-1, 0, 1, greatest), func(l []int64) {
			holdUndoAgainstModel(t, left, l)
		})
	})
}

// anyNumber is one of any size, seldom one at its edges.
func anyNumber(r *rand.Rand) int64 {
	switch r.IntN(200) {
	case 0:
		return list(-1, least, greatest, greatest-1)[r.IntN(4)]
	case 1, 2, 3, 4, 5, 6, 7, 8, 9, 10:
		return 0
	default:
		return r.Int64() >> r.IntN(64)
	}
}

// anyLeft is some numbers, that mostly are an amount together.
func anyLeft(r *rand.Rand) []int64 {
	l := make([]int64, r.IntN(11))
	less := 4 + r.IntN(59)
	great := r.IntN(20) == 0
	for i := range l {
		l[i] = anyNumber(r)
		switch {
		case great && l[i] >= 0:
			l[i] |= 1 << 62
		case l[i] != least:
			l[i] >>= less
		}
	}
	return l
}

// anyAmount is one that mostly may be taken.
func anyAmount(r *rand.Rand, left []int64) int64 {
	all := sum(left)
	switch k := r.IntN(20); {
	case k == 0:
		return anyNumber(r)
	case k == 1 || all < 1:
		return all + int64(r.IntN(2))
	case k < 5:
		return 1 + r.Int64N(min(all, 20))
	default:
		return 1 + r.Int64N(all)
	}
}

func TestRandomListsAgainstModel(t *testing.T) {
	r := rand.New(rand.NewPCG(13, 1))
	counts := map[api.Errno]int{}
	for range 100000 {
		left := anyLeft(r)
		n := anyAmount(r, left)
		kept := slices.Clone(left)
		counts[holdAgainstModel(t, left, n)]++
		if !slices.Equal(left, kept) {
			t.Fatalf("the list is %v, want %v", left, kept)
		}
	}
	for _, e := range []api.Errno{api.OK, api.ErrArg, api.ErrOver, api.ErrMore} {
		if counts[e] < 1000 {
			t.Errorf("only %d of error %d", counts[e], e)
		}
	}
}

func TestRandomUndosAgainstModel(t *testing.T) {
	r := rand.New(rand.NewPCG(13, 2))
	counts := map[api.Errno]int{}
	for range 100000 {
		left := make([]int64, r.IntN(11))
		l := make([]int64, len(left))
		for i := range left {
			left[i], l[i] = anyNumber(r), anyNumber(r)
		}
		if r.IntN(10) == 0 {
			l = anyLeft(r)
		}
		kept := slices.Clone(l)
		counts[holdUndoAgainstModel(t, left, l)]++
		if !slices.Equal(l, kept) {
			t.Fatalf("the list is %v, want %v", l, kept)
		}
	}
	for _, e := range []api.Errno{api.OK, api.ErrArg, api.ErrOver} {
		if counts[e] < 1000 {
			t.Errorf("only %d of error %d", counts[e], e)
		}
	}
}

// A sale that goes on and on is what a model of it is.
func TestRandomSalesAgainstModel(t *testing.T) {
	r := rand.New(rand.NewPCG(13, 3))
	for range 2000 {
		left := anyLeft(r)
		s := &Sale{Left: slices.Clone(left)}
		var taken [][]int64
		for range 30 {
			switch k := r.IntN(10); {
			case k < 6 || len(taken) == 0:
				n := anyAmount(r, left)
				want, wantE := modelTake(left, n)
				p, e := s.Refund(n)
				if e != wantE || !slices.Equal(p, want) {
					t.Fatalf("Refund(%d) of %v = %v, %d, want %v, %d", n, left, p, e, want, wantE)
				}
				if e == api.OK {
					left, taken = less(left, want), append(taken, p)
				}
			case k < 9:
				i := r.IntN(len(taken))
				want, wantE := modelUndo(left, taken[i])
				if e := s.Undo(taken[i]...); e != wantE {
					t.Fatalf("Undo(%v) of %v = %d, want %d", taken[i], left, e, wantE)
				}
				left, taken = want, slices.Delete(taken, i, i+1)
			default:
				l := anyLeft(r)
				want, wantE := modelUndo(left, l)
				if e := s.Undo(l...); e != wantE {
					t.Fatalf("Undo(%v) of %v = %d, want %d", l, left, e, wantE)
				}
				left = want
			}
			if !slices.Equal(s.Left, left) {
				t.Fatalf("left is %v, want %v", s.Left, left)
			}
		}
	}
}

// P13.2, of a whole sale.

// takeAll takes a sale in pieces, and holds that nothing is left of any part.
func takeAll(t *testing.T, left []int64, pieces ...int64) {
	t.Helper()
	s := &Sale{Left: slices.Clone(left)}
	back := times(0, len(left))
	for _, n := range pieces {
		now := slices.Clone(s.Left)
		p, e := s.Refund(n)
		if e != api.OK {
			t.Fatalf("%v in pieces %v: Refund(%d) of %v = %d", left, pieces, n, now, e)
		}
		wantWhole(t, now, n, p)
		for i, k := range p {
			back[i] += k
		}
	}
	if !slices.Equal(back, left) || !slices.Equal(s.Left, times(0, len(left))) {
		t.Fatalf("%v in pieces %v: %v are back, and %v are left", left, pieces, back, s.Left)
	}
	if p, e := s.Refund(1); e != api.ErrMore || len(p) != 0 {
		t.Fatalf("%v in pieces %v, and one more: %v, %d", left, pieces, p, e)
	}
}

func TestAnyPieces(t *testing.T) {
	for _, left := range [][]int64{{10}, {1, 9}, {5, 5}, {3, 3, 4}, {0, 1, 2, 7}, {1, 1, 1, 1, 1, 1, 1, 1, 1, 1}, {1, 0, 8, 0, 1}, {2, 8, 2}} {
		var all func(rest int64, pieces []int64)
		all = func(rest int64, pieces []int64) {
			if rest == 0 {
				takeAll(t, left, pieces...)
			}
			for n := int64(1); n <= rest; n++ {
				all(rest-n, append(slices.Clone(pieces), n))
			}
		}
		all(sum(left), nil)
	}
}

func TestAnyPiecesOfGreatSales(t *testing.T) {
	r := rand.New(rand.NewPCG(13, 4))
	lists := [][]int64{{greatest}, {greatest - 1, 1}, {1, greatest - 1}, {1 << 62, 1<<62 - 1}, {1 << 61, 1 << 61, 1 << 61, 1<<61 - 1}, {1<<63 - 1 - 3<<50, 1 << 50, 1 << 50, 1 << 50}}
	for range 500 {
		l := anyLeft(r)
		if _, e := modelTake(l, 1); e == api.OK {
			lists = append(lists, l)
		}
	}
	for _, left := range lists {
		for range 10 {
			var pieces []int64
			rest := sum(left)
			for rest > 0 && len(pieces) < 40 {
				n := 1 + r.Int64N(rest)>>r.IntN(5)
				pieces, rest = append(pieces, n), rest-n
			}
			if rest > 0 {
				pieces = append(pieces, rest)
			}
			takeAll(t, left, pieces...)
		}
	}
}

// P1, P2, and the rules that hold everywhere.

func TestTheListStays(t *testing.T) {
	whole := list(10, 30, -1, 7)
	kept := slices.Clone(whole)
	for range 3 {
		// What lies behind the list's length is neither read nor written.
		for _, l := range [][]int64{whole[:2], whole[:2:2]} {
			if p, e := Take(l, 4); e != api.OK || !slices.Equal(p, list(1, 3)) {
				t.Error(p, e)
			}
			if p, e := Take(l, 41); e != api.ErrMore || len(p) != 0 {
				t.Error(p, e)
			}
		}
		if p, e := Take(whole[:0], 1); e != api.ErrMore || len(p) != 0 {
			t.Error(p, e)
		}
		if p, e := Take(whole, 4); e != api.ErrArg || len(p) != 0 {
			t.Error(p, e)
		}
		s := &Sale{Left: list(0, 0)}
		if e := s.Undo(whole[:2]...); e != api.OK {
			t.Error(e)
		}
		if e := s.Undo(whole[1:3]...); e != api.ErrArg {
			t.Error(e)
		}
		if e := s.Undo(whole[:1]...); e != api.ErrArg {
			t.Error(e)
		}
		if p, e := s.Refund(40); e != api.OK || !slices.Equal(p, list(10, 30)) {
			t.Error(p, e)
		}
		if !slices.Equal(whole, kept) {
			t.Fatalf("the list is %v, want %v", whole, kept)
		}
	}
}

// A list that a sale was made of stays, and so does what lies behind its length.
func TestTheListOfASaleStays(t *testing.T) {
	whole := list(10, 30, -1, 7)
	kept := slices.Clone(whole)
	s, other := &Sale{Left: whole[:2]}, &Sale{Left: whole[:2]}
	if p, e := s.Refund(4); e != api.OK || !slices.Equal(p, list(1, 3)) {
		t.Error(p, e)
	}
	wantLeft(t, s, 9, 27)
	wantLeft(t, other, 10, 30)
	if e := other.Undo(1, 1); e != api.OK {
		t.Error(e)
	}
	wantLeft(t, other, 11, 31)
	wantLeft(t, s, 9, 27)
	if !slices.Equal(whole, kept) {
		t.Errorf("the list is %v, want %v", whole, kept)
	}
	whole[0], whole[1] = 500, 600
	wantLeft(t, s, 9, 27)
	wantLeft(t, other, 11, 31)
}

// What was given back isn't the sale's: neither goes on in the other.
func TestWhatIsGivenBackIsNotKept(t *testing.T) {
	l := list(1, 3)
	s := &Sale{Left: list(0, 0)}
	if e := s.Undo(l...); e != api.OK {
		t.Error(e)
	}
	l[0], l[1] = 50, -60
	wantLeft(t, s, 1, 3)
	l = list(5, 6)
	if e := s.Undo(l...); e != api.OK {
		t.Error(e)
	}
	s.Left[0] = 99
	if p, e := s.Refund(9); e != api.OK || !slices.Equal(p, list(8, 1)) {
		t.Error(p, e)
	}
	if !slices.Equal(l, list(5, 6)) {
		t.Errorf("the list is %v", l)
	}
}

// What is left may itself be given back; and that list too stays as it was.
func TestUndoOfLeftItself(t *testing.T) {
	s := &Sale{Left: list(1, 2, 4)}
	l := s.Left
	if e := s.Undo(l...); e != api.OK {
		t.Error(e)
	}
	wantLeft(t, s, 2, 4, 8)
	if !slices.Equal(l, list(1, 2, 4)) {
		t.Errorf("the list is %v", l)
	}
	s.Left = list(1, greatest)
	if e := s.Undo(s.Left...); e != api.ErrOver {
		t.Error(e)
	}
	wantLeft(t, s, 1, greatest)
}

// An answer is new: what is done to it is seen neither in what is left nor in the next one, and the other way.
func TestAnswersAreNotShared(t *testing.T) {
	left := list(10, 30)
	for _, n := range []int64{4, 40} {
		p, _ := Take(left, n)
		q, _ := Take(left, n)
		want := slices.Clone(p)
		p[0], p[1] = -1, -2
		_ = append(p[:1], 77)
		if !slices.Equal(left, list(10, 30)) || !slices.Equal(q, want) {
			t.Error(left, q)
		}
		left[0], left[1] = 7, 8
		if !slices.Equal(q, want) {
			t.Error(q)
		}
		left[0], left[1] = 10, 30
	}
	for _, n := range []int64{4, 39, 40} {
		s := &Sale{Left: list(10, 30)}
		p, _ := s.Refund(n)
		taken, now := slices.Clone(p), slices.Clone(s.Left)
		p[0], p[1] = -1, -2
		_ = append(p[:0], 77, 78)
		wantLeft(t, s, now...)
		if e := s.Undo(taken...); e != api.OK {
			t.Error(e)
		}
		q, _ := s.Refund(n)
		s.Left[0], s.Left[1] = 500, 600
		if e := s.Undo(1, 1); e != api.OK || !slices.Equal(q, taken) {
			t.Error(e, q)
		}
		wantLeft(t, s, 501, 601)
	}
}

func TestOneCallSaysNothingToTheNext(t *testing.T) {
	s := &Sale{Left: list(3, 3)}
	for range 3 {
		wantTake(t, list(10, 30), 4, 1, 3)
		wantNoTake(t, list(greatest, 1), 1, api.ErrOver)
		wantNoTake(t, nil, 1, api.ErrMore)
		wantNoTake(t, list(1), 0, api.ErrArg)
		wantUndo(t, list(1, 2), list(3, 4), 4, 6)
		wantNoUndo(t, list(1, 2), list(3), api.ErrArg)
		wantNoUndo(t, list(1, 2), list(greatest, 1), api.ErrOver)
		wantLeft(t, s, 3, 3)
	}
}
