package money

import (
	"math"
	"math/big"
	"math/rand/v2"
	"slices"
	"testing"

	"souk/api"
)

const (
	least    = math.MinInt64
	greatest = math.MaxInt64
)

// edges are amounts at which something may run over, or round the other way.
var edges = []int64{
	least, least + 1, least + 2, least/2 - 1, least / 2, least/2 + 1,
	-1 << 32, -api.Whole, -7, -3, -2, -1, 0, 1, 2, 3, 7, api.Whole, 1 << 32,
	greatest/2 - 1, greatest / 2, greatest/2 + 1, greatest - 2, greatest - 1, greatest,
}

// asAmount is what is answered of a number of any size.
func asAmount(n *big.Int) (int64, api.Errno) {
	if !n.IsInt64() {
		return 0, api.ErrOver
	}
	return n.Int64(), api.OK
}

// P1.1, Add.

func TestAdd(t *testing.T) {
	for i, c := range []struct {
		l    []int64
		want int64
		e    api.Errno
	}{
		{nil, 0, api.OK},
		{[]int64{}, 0, api.OK},
		{[]int64{0}, 0, api.OK},
		{[]int64{5}, 5, api.OK},
		{[]int64{-5}, -5, api.OK},
		{[]int64{3, -5, 10}, 8, api.OK},
		{[]int64{greatest}, greatest, api.OK},
		{[]int64{least}, least, api.OK},
		{[]int64{greatest, 0}, greatest, api.OK},
		{[]int64{least, 0}, least, api.OK},
		{[]int64{greatest - 1, 1}, greatest, api.OK},
		{[]int64{least + 1, -1}, least, api.OK},
		{[]int64{greatest, least}, -1, api.OK},
		{[]int64{least, greatest}, -1, api.OK},
		{[]int64{greatest, 1}, 0, api.ErrOver},
		{[]int64{1, greatest}, 0, api.ErrOver},
		{[]int64{least, -1}, 0, api.ErrOver},
		{[]int64{-1, least}, 0, api.ErrOver},
		{[]int64{greatest, greatest}, 0, api.ErrOver},
		{[]int64{least, least}, 0, api.ErrOver},
	} {
		if n, e := Add(c.l...); n != c.want || e != c.e {
			t.Errorf("%d: Add(%v): %d, %d", i, c.l, n, e)
		}
	}
}

// A sum that is an amount at last doesn't help, if one ahead was none; nor does another order.
func TestAddOneAfterTheOther(t *testing.T) {
	for _, l := range [][]int64{
		{greatest, 1, -1},
		{least, -1, 1},
		{greatest, greatest, least, least},
		{1, 2, greatest, -3},
		{greatest, 1, 0, 0},
	} {
		if n, e := Add(l...); n != 0 || e != api.ErrOver {
			t.Errorf("Add(%v): %d, %d", l, n, e)
		}
	}
	if n, e := Add(greatest, -1, 1); n != greatest || e != api.OK {
		t.Errorf("%d, %d", n, e)
	}
	if n, e := Add(greatest, least, greatest, least); n != -2 || e != api.OK {
		t.Errorf("%d, %d", n, e)
	}
}

func TestAddAtEdges(t *testing.T) {
	for _, a := range edges {
		for _, b := range edges {
			want, we := asAmount(new(big.Int).Add(big.NewInt(a), big.NewInt(b)))
			if n, e := Add(a, b); n != want || e != we {
				t.Errorf("Add(%d, %d): %d, %d, not %d, %d", a, b, n, e, want, we)
			}
		}
	}
}

// P1.1, Sub.

func TestSub(t *testing.T) {
	for i, c := range []struct {
		a, b, want int64
		e          api.Errno
	}{
		{0, 0, 0, api.OK},
		{10, 3, 7, api.OK},
		{3, 10, -7, api.OK},
		{-3, -10, 7, api.OK},
		{greatest, 0, greatest, api.OK},
		{least, 0, least, api.OK},
		{-1, least, greatest, api.OK},
		{-1, greatest, least, api.OK},
		{least, least, 0, api.OK},
		{greatest, greatest, 0, api.OK},
		{0, least, 0, api.ErrOver},
		{-2, greatest, 0, api.ErrOver},
		{greatest, -1, 0, api.ErrOver},
		{least, 1, 0, api.ErrOver},
		{greatest, least, 0, api.ErrOver},
		{least, greatest, 0, api.ErrOver},
	} {
		if n, e := Sub(c.a, c.b); n != c.want || e != c.e {
			t.Errorf("%d: Sub(%d, %d): %d, %d", i, c.a, c.b, n, e)
		}
	}
}

func TestSubAtEdges(t *testing.T) {
	for _, a := range edges {
		for _, b := range edges {
			want, we := asAmount(new(big.Int).Sub(big.NewInt(a), big.NewInt(b)))
			if n, e := Sub(a, b); n != want || e != we {
				t.Errorf("Sub(%d, %d): %d, %d, not %d, %d", a, b, n, e, want, we)
			}
		}
	}
}

// P1.1, MulDiv.

func TestModesAreCounted(t *testing.T) {
	if Down != 0 || Up != 1 || Near != 2 {
		t.Error(Down, Up, Near)
	}
}

func TestMulDivRounds(t *testing.T) {
	for i, c := range []struct {
		a, b, c        int64
		down, up, near int64
	}{
		{6, 1, 2, 3, 3, 3},
		{-6, 1, 2, -3, -3, -3},
		{0, 5, 3, 0, 0, 0},
		{0, -5, 3, 0, 0, 0},
		{-5, 0, 3, 0, 0, 0},
		// exactly in the middle: to the even one
		{1, 1, 2, 0, 1, 0},
		{3, 1, 2, 1, 2, 2},
		{5, 1, 2, 2, 3, 2},
		{7, 1, 2, 3, 4, 4},
		{-1, 1, 2, -1, 0, 0},
		{-3, 1, 2, -2, -1, -2},
		{5, -1, 2, -3, -2, -2},
		{-7, 1, 2, -4, -3, -4},
		{-5, -1, 2, 2, 3, 2},
		// beside the middle
		{4, 1, 3, 1, 2, 1},
		{5, 1, 3, 1, 2, 2},
		{7, 1, 3, 2, 3, 2},
		{8, 1, 3, 2, 3, 3},
		{-4, 1, 3, -2, -1, -1},
		{-5, 1, 3, -2, -1, -2},
		{7, -1, 3, -3, -2, -2},
		{8, -1, 3, -3, -2, -3},
		// no middle where c is odd
		{3, 1, 7, 0, 1, 0},
		{4, 1, 7, 0, 1, 1},
		// a rate of an amount
		{12345, 290, api.Whole, 358, 359, 358},
		{12350, 290, api.Whole, 358, 359, 358},
		{50, 100, api.Whole, 0, 1, 0},
		{150, 100, api.Whole, 1, 2, 2},
		// c that is great: twice what remains is no amount
		{greatest - 1, 1, greatest, 0, 1, 1},
		{greatest / 2, 1, greatest, 0, 1, 0},
		{greatest/2 + 1, 1, greatest, 0, 1, 1},
		{greatest / 2, 1, greatest - 1, 0, 1, 0},
		{-(greatest - 1), 1, greatest, -1, 0, -1},
	} {
		for _, x := range []struct {
			m    Mode
			want int64
		}{{Down, c.down}, {Up, c.up}, {Near, c.near}} {
			if n, e := MulDiv(c.a, c.b, c.c, x.m); n != x.want || e != api.OK {
				t.Errorf("%d: MulDiv(%d, %d, %d, %d): %d, %d, not %d", i, c.a, c.b, c.c, x.m, n, e, x.want)
			}
		}
	}
}

func TestMulDivAtTheGreatestAndTheLeast(t *testing.T) {
	type answer struct {
		n int64
		e api.Errno
	}
	over := answer{0, api.ErrOver}
	most, bottom := answer{greatest, api.OK}, answer{least, api.OK}
	for i, c := range []struct {
		a, b, c        int64
		down, up, near answer
	}{
		// the product may be any
		{greatest, greatest, greatest, most, most, most},
		{least, greatest, greatest, bottom, bottom, bottom},
		{greatest, 2, 2, most, most, most},
		// whole, and an amount or none
		{greatest, 1, 1, most, most, most},
		{least, 1, 1, bottom, bottom, bottom},
		{least, -1, 1, over, over, over},
		{least / 2, 2, 1, bottom, bottom, bottom},
		{least / 2, -2, 1, over, over, over},
		{greatest, 2, 1, over, over, over},
		// half an amount less than 2^63, and more
		{6148914691236517205, 3, 2, most, over, over},
		{-6148914691236517205, 3, 2, bottom, answer{-greatest, api.OK}, bottom},
		{67280421310721, 274177, 2, over, over, over},
		{67280421310721, -274177, 2, over, bottom, bottom},
		// thirds less than 2^63, and more
		{88971434439113593, 311, 3, most, over, over},
		{2515465100960393402, 11, 3, most, over, most},
		{-88971434439113593, 311, 3, bottom, answer{-greatest, api.OK}, bottom},
		{2515465100960393402, -11, 3, bottom, answer{-greatest, api.OK}, answer{-greatest, api.OK}},
		{5534023222112865485, -5, 3, over, bottom, bottom},
		{2128470470043409802, -13, 3, over, bottom, over},
		// 2^64 - 1 and something: rounded, it is 2^64, which is not 0
		{1190112520884487201, 31, 2, over, over, over},
		{8198552921648689607, 9, 4, over, over, over},
		{-8198552921648689607, 9, 4, over, over, over},
		// 2^64 and more, up to the greatest product
		{1 << 62, 4, 1, over, over, over},
		{1 << 62, -4, 1, over, over, over},
		{greatest, greatest, greatest - 1, over, over, over},
		{greatest, greatest, 1, over, over, over},
		{least, greatest, 1, over, over, over},
		{least, least, 1, over, over, over},
		{least, least, greatest, over, over, over},
	} {
		for m, want := range []answer{Down: c.down, Up: c.up, Near: c.near} {
			if n, e := MulDiv(c.a, c.b, c.c, Mode(m)); (answer{n, e}) != want {
				t.Errorf("%d: MulDiv(%d, %d, %d, %d): %d, %d, not %v", i, c.a, c.b, c.c, m, n, e, want)
			}
		}
	}
}

// ErrArg is named first: it is told even where the result would be no amount.
func TestMulDivWrongArguments(t *testing.T) {
	for _, c := range []int64{0, -1, -2, -greatest, least} {
		for _, m := range []Mode{Down, Up, Near, 3} {
			if n, e := MulDiv(greatest, greatest, c, m); n != 0 || e != api.ErrArg {
				t.Errorf("MulDiv by %d, %d: %d, %d", c, m, n, e)
			}
		}
	}
	for _, m := range []Mode{-1, 3, 4, 5, math.MinInt, math.MaxInt} {
		for _, a := range []int64{0, 1, 6, greatest} {
			if n, e := MulDiv(a, a, 1, m); n != 0 || e != api.ErrArg {
				t.Errorf("MulDiv in mode %d: %d, %d", m, n, e)
			}
		}
	}
}

// exactMulDiv is MulDiv of numbers of any size.
func exactMulDiv(a, b, c int64, m Mode) (int64, api.Errno) {
	divisor := big.NewInt(c)
	product := new(big.Int).Mul(big.NewInt(a), big.NewInt(b))
	q, r := new(big.Int).DivMod(product, divisor, new(big.Int))
	middle := new(big.Int).Lsh(r, 1).Cmp(divisor)
	if m == Up && r.Sign() > 0 || m == Near && (middle > 0 || middle == 0 && q.Bit(0) == 1) {
		q.Add(q, big.NewInt(1))
	}
	return asAmount(q)
}

func checkMulDiv(t *testing.T, a, b, c int64) {
	t.Helper()
	for _, m := range []Mode{Down, Up, Near} {
		want, we := exactMulDiv(a, b, c, m)
		if n, e := MulDiv(a, b, c, m); n != want || e != we {
			t.Errorf("MulDiv(%d, %d, %d, %d): %d, %d, not %d, %d", a, b, c, m, n, e, want, we)
		}
	}
}

func TestMulDivAtEdges(t *testing.T) {
	for _, a := range edges {
		for _, b := range edges {
			for _, c := range edges {
				if c > 0 {
					checkMulDiv(t, a, b, c)
				}
			}
		}
	}
}

func TestMulDivOfSmallOnes(t *testing.T) {
	for a := int64(-20); a <= 20; a++ {
		for b := int64(-6); b <= 6; b++ {
			for c := int64(1); c <= 12; c++ {
				checkMulDiv(t, a, b, c)
			}
		}
	}
}

// anySize is an amount of so many bits at most, so that small ones are as frequent as great ones.
func anySize(r *rand.Rand) int64 {
	return int64(r.Uint64()) >> r.IntN(64)
}

func TestMulDivOfAnySize(t *testing.T) {
	r := rand.New(rand.NewPCG(1, 2))
	for range 20000 {
		a, b, c := anySize(r), anySize(r), anySize(r)
		checkMulDiv(t, a, b, c&greatest|1)
		checkMulDiv(t, a, b, max(2, c&greatest&^1))
	}
}

// P1.2.

func TestSplit(t *testing.T) {
	for i, c := range []struct {
		total   int64
		weights []int64
		want    []int64
	}{
		{10, []int64{1, 1, 1}, []int64{4, 3, 3}},
		{11, []int64{1, 1, 1}, []int64{4, 4, 3}},
		{12, []int64{1, 1, 1}, []int64{4, 4, 4}},
		{100, []int64{1, 2, 3}, []int64{17, 33, 50}},
		{100, []int64{3, 2, 1}, []int64{50, 33, 17}},
		{100, []int64{1, 2}, []int64{33, 67}},
		{7, []int64{5}, []int64{7}},
		{0, []int64{5}, []int64{0}},
		{0, []int64{1, 0, 2}, []int64{0, 0, 0}},
		// weights of 0 get nothing, wherever they stand
		{1, []int64{0, 1, 1}, []int64{0, 1, 0}},
		{5, []int64{0, 1, 0, 1, 0}, []int64{0, 3, 0, 2, 0}},
		{2, []int64{0, 1, 1, 1}, []int64{0, 1, 1, 0}},
		{9, []int64{0, 4}, []int64{0, 9}},
		// of parts of which as much was taken, the first ones; more was taken ahead of them, and behind
		{2, []int64{1, 1, 1, 1}, []int64{1, 1, 0, 0}},
		{3, []int64{1, 1, 2, 1}, []int64{1, 1, 1, 0}},
		{6, []int64{1, 3, 1}, []int64{1, 4, 1}},
		{3, []int64{3, 4, 3}, []int64{1, 1, 1}},
		{1, []int64{1, 2, 1}, []int64{0, 1, 0}},
		{2, []int64{1, 1, 3}, []int64{1, 0, 1}},
		{10, []int64{1, 2, 3, 4, 5}, []int64{1, 1, 2, 3, 3}},
		{2, []int64{5, 3, 3, 5}, []int64{1, 0, 0, 1}},
		// more weights than there is to split
		{1, []int64{1, 1, 1, 1, 1}, []int64{1, 0, 0, 0, 0}},
		{1, []int64{1, 1, 1, 1, 2}, []int64{0, 0, 0, 0, 1}},
		// great ones
		{greatest, []int64{greatest}, []int64{greatest}},
		{greatest, []int64{1}, []int64{greatest}},
		{1, []int64{greatest}, []int64{1}},
		{greatest, []int64{0, greatest, 0}, []int64{0, greatest, 0}},
		{greatest, []int64{greatest - 1, 1}, []int64{greatest - 1, 1}},
		{greatest, []int64{1, 1}, []int64{greatest/2 + 1, greatest / 2}},
		{greatest - 1, []int64{greatest - 1, 1}, []int64{greatest - 2, 1}},
		{greatest - 1, []int64{1, greatest - 1}, []int64{1, greatest - 2}},
	} {
		l, e := Split(c.total, c.weights...)
		if e != api.OK || !slices.Equal(l, c.want) {
			t.Errorf("%d: Split(%d, %v): %v, %d, not %v", i, c.total, c.weights, l, e, c.want)
		}
	}
}

func TestSplitWrongArguments(t *testing.T) {
	for i, c := range []struct {
		total   int64
		weights []int64
		e       api.Errno
	}{
		{-1, []int64{1}, api.ErrArg},
		{least, []int64{1, 2}, api.ErrArg},
		{1, []int64{-1}, api.ErrArg},
		{1, []int64{-1, 2}, api.ErrArg},
		{1, []int64{2, 3, -1}, api.ErrArg},
		{0, []int64{5, least}, api.ErrArg},
		{7, nil, api.ErrArg},
		{7, []int64{}, api.ErrArg},
		{0, nil, api.ErrArg},
		{7, []int64{0}, api.ErrArg},
		{7, []int64{0, 0}, api.ErrArg},
		{0, []int64{0}, api.ErrArg},
		{1, []int64{greatest, 1}, api.ErrOver},
		{0, []int64{1, greatest}, api.ErrOver},
		{1, []int64{greatest, greatest, 2}, api.ErrOver},
		// what is below 0 is named ahead of what runs over, wherever it stands
		{-1, []int64{greatest, 1}, api.ErrArg},
		{1, []int64{greatest, 1, -1}, api.ErrArg},
		{1, []int64{-1, greatest, 2}, api.ErrArg},
	} {
		l, e := Split(c.total, c.weights...)
		if len(l) != 0 || e != c.e {
			t.Errorf("%d: Split(%d, %v): %v, %d, not %d", i, c.total, c.weights, l, e, c.e)
		}
	}
}

// exactSplit is Split of numbers of any size, for weights that may be; what is left is given one by one.
func exactSplit(total int64, weights []int64) []int64 {
	sum := new(big.Int)
	for _, w := range weights {
		sum.Add(sum, big.NewInt(w))
	}
	parts, taken := make([]int64, len(weights)), make([]*big.Int, len(weights))
	left := total
	for i, w := range weights {
		q := new(big.Int).Mul(big.NewInt(total), big.NewInt(w))
		q, taken[i] = q.DivMod(q, sum, new(big.Int))
		parts[i] = q.Int64()
		left -= parts[i]
	}
	for ; left > 0; left-- {
		first := 0
		for i := range taken {
			if taken[i].Cmp(taken[first]) > 0 {
				first = i
			}
		}
		parts[first]++
		taken[first] = big.NewInt(-1)
	}
	return parts
}

// P1.3: parts are total together, none is above what it is, rounded up, and one of weight 0 is 0.
func checkParts(t *testing.T, total int64, weights, parts []int64) {
	t.Helper()
	sum, _ := Add(weights...)
	if all, e := Add(parts...); all != total || e != api.OK {
		t.Errorf("Split(%d, %v): %v is %d together", total, weights, parts, all)
	}
	for i, w := range weights {
		down, _ := exactMulDiv(total, w, sum, Down)
		up, _ := exactMulDiv(total, w, sum, Up)
		if parts[i] < down || parts[i] > up || w == 0 && parts[i] != 0 {
			t.Errorf("Split(%d, %v): %v, at %d", total, weights, parts, i)
		}
	}
}

func checkSplit(t *testing.T, total int64, weights []int64) {
	t.Helper()
	l, e := Split(total, weights...)
	if e != api.OK || len(l) != len(weights) {
		t.Errorf("Split(%d, %v): %v, %d", total, weights, l, e)
		return
	}
	if want := exactSplit(total, weights); !slices.Equal(l, want) {
		t.Errorf("Split(%d, %v): %v, not %v", total, weights, l, want)
	}
	checkParts(t, total, weights, l)
}

func TestSplitOfSmallOnes(t *testing.T) {
	for a := range int64(5) {
		for b := range int64(5) {
			for c := range int64(5) {
				for d := range int64(5) {
					if a+b+c+d == 0 {
						continue
					}
					for total := range int64(18) {
						checkSplit(t, total, []int64{a, b, c, d})
					}
				}
			}
		}
	}
}

func TestSplitOfAnySize(t *testing.T) {
	r := rand.New(rand.NewPCG(3, 4))
	for range 5000 {
		weights := make([]int64, 1+r.IntN(20))
		for i := range weights {
			if r.IntN(4) > 0 {
				weights[i] = anySize(r) & greatest / int64(len(weights))
			}
		}
		if sum, _ := Add(weights...); sum == 0 {
			weights[r.IntN(len(weights))] = 1
		}
		checkSplit(t, anySize(r)&greatest, weights)
	}
}

func TestSplitAmongMany(t *testing.T) {
	weights := make([]int64, 2000)
	for i := range weights {
		weights[i] = int64(i % 3)
	}
	for _, total := range []int64{0, 1, 999, 1000, 1998, 1999, 2001, 1 << 40, greatest} {
		checkSplit(t, total, weights)
	}
}

// P2, and the rules that hold everywhere.

func TestArgumentsStay(t *testing.T) {
	whole := []int64{3, 1, 2, -9, -9}
	given := whole[:3]
	for range 3 {
		if n, e := Add(given...); n != 6 || e != api.OK {
			t.Error(n, e)
		}
		l, e := Split(10, given...)
		if e != api.OK || !slices.Equal(l, []int64{5, 2, 3}) {
			t.Error(l, e)
		}
		// An answer is new: what is done to it is seen neither here nor in the next one.
		for i := range l {
			l[i] = 77
		}
		if _, e := Split(-1, given...); e != api.ErrArg {
			t.Error(e)
		}
		if !slices.Equal(whole, []int64{3, 1, 2, -9, -9}) {
			t.Error(whole)
		}
	}
}
