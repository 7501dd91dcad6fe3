package basis

import (
	"fmt"
	"math"
	"math/big"
	"math/rand/v2"
	"testing"

	"souk/api"
)

const (
	least    = math.MinInt64
	greatest = math.MaxInt64
	tiny     = math.SmallestNonzeroFloat64
	huge     = math.MaxFloat64
	normal   = 0x1p-1022 // the least one that isn't subnormal
)

var (
	minus   = math.Copysign(0, -1)
	endless = math.Inf(1)
	bottom  = math.Inf(-1)
)

// nans are of both signs, quiet and not, with several payloads.
var nans = []float64{
	math.NaN(),
	math.Float64frombits(0x7ff0000000000001),
	math.Float64frombits(0x7fffffffffffffff),
	math.Float64frombits(0xfff0000000000001),
	math.Float64frombits(0xfff8000000000000),
	math.Float64frombits(0xffffffffffffffff),
}

// rising are fractions, each below the next one.
var rising = []float64{
	bottom, -huge, -1e300, -10000, -1.5, math.Nextafter(-1, -2), -1, math.Nextafter(-1, 0), -0.5, -1e-300,
	-normal, -tiny, minus, 0, tiny, 2 * tiny, normal, 1e-300, 0.00005, 0.0001, 1.0 / 3, 0.5,
	math.Nextafter(1, 0), 1, math.Nextafter(1, 2), 1.00005, 1.5, 10000, 1 << 53, 1e300, huge, endless,
}

// up and down are the fractions beside one.
func up(x float64) float64   { return math.Nextafter(x, endless) }
func down(x float64) float64 { return math.Nextafter(x, bottom) }

// anyFraction is one of all there are: by its bits, by its size, or between 0 and a little above 1.
func anyFraction(r *rand.Rand) float64 {
	switch r.IntN(3) {
	case 0:
		return math.Float64frombits(r.Uint64())
	case 1:
		return math.Ldexp(r.Float64()*2-1, r.IntN(120)-100)
	default:
		return r.Float64() * 1.0002
	}
}

// P2.1, Ratio.

func TestRatio(t *testing.T) {
	for i, c := range []struct {
		part, whole int64
		want        float64
	}{
		{1, 2, 0.5},
		{1, 3, 1.0 / 3},
		{-1, 3, -1.0 / 3},
		{1, -3, -1.0 / 3},
		{-1, -3, 1.0 / 3},
		{3, 1, 3},
		{100, 1000, 0.1},
		{307, 10000, 0.0307},
		{0, 5, 0},
		{0, -5, minus},
		{1, 0, endless},
		{-1, 0, bottom},
		{greatest, 0, endless},
		{least, 0, bottom},
		{greatest, greatest, 1},
		{least, least, 1},
		{greatest, 1, 0x1p63},
		{least, 1, -0x1p63},
		{1, least, -0x1p-63},
		// no float64 lies between: both are 2^63 as such
		{least, greatest, -1},
		{greatest - 1, greatest, 1},
		// each is a float64 ahead of the division: 2^53 + 1 is 2^53, of two to the even one
		{1<<53 + 1, 1, 1 << 53},
		{1<<53 + 3, 1, 1<<53 + 4},
		{1<<53 + 1, 3, 3002399751580330.5},
		{1<<53 + 1, 1 << 53, 1},
	} {
		// By their bits: == holds a 0 with a sign and one without to be equal.
		if x := Ratio(c.part, c.whole); math.Float64bits(x) != math.Float64bits(c.want) {
			t.Errorf("%d: Ratio(%d, %d): %v, not %v", i, c.part, c.whole, x, c.want)
		}
	}
	if x := Ratio(0, 0); !math.IsNaN(x) {
		t.Error(x)
	}
}

// asFloat is the float64 nearest to a whole number.
func asFloat(n int64) *big.Float {
	return new(big.Float).SetPrec(53).SetMode(big.ToNearestEven).SetInt64(n)
}

func TestRatioOfAnySize(t *testing.T) {
	r := rand.New(rand.NewPCG(1, 2))
	for range 20000 {
		part, whole := int64(r.Uint64())>>r.IntN(64), int64(r.Uint64())>>r.IntN(64)
		if whole == 0 {
			continue
		}
		want, _ := new(big.Float).SetPrec(53).Quo(asFloat(part), asFloat(whole)).Float64()
		if x := Ratio(part, whole); x != want {
			t.Errorf("Ratio(%d, %d): %v, not %v", part, whole, x, want)
		}
	}
}

// P2.1, Of.

func TestKindsAreCounted(t *testing.T) {
	if None != 0 || Endless != 1 || Nought != 2 || Fraction != 3 {
		t.Error(None, Endless, Nought, Fraction)
	}
}

func TestOf(t *testing.T) {
	for _, x := range nans {
		if k := Of(x); k != None {
			t.Errorf("Of(%x): %d", math.Float64bits(x), k)
		}
	}
	for _, x := range rising {
		want := Fraction
		switch math.Float64bits(x) {
		case 0x7ff0000000000000, 0xfff0000000000000:
			want = Endless
		case 0, 1 << 63:
			want = Nought
		}
		if k := Of(x); k != want {
			t.Errorf("Of(%v): %d, not %d", x, k, want)
		}
	}
	for i, c := range []struct {
		part, whole int64
		want        Kind
	}{{0, 0, None}, {7, 0, Endless}, {-7, 0, Endless}, {0, 7, Nought}, {0, -7, Nought}, {7, 7, Fraction}, {-1, greatest, Fraction}} {
		if k := Of(Ratio(c.part, c.whole)); k != c.want {
			t.Errorf("%d: Of(Ratio(%d, %d)): %d, not %d", i, c.part, c.whole, k, c.want)
		}
	}
}

// P2.1, Points and Text.

func checkPoints(t *testing.T, x float64, n api.Rate, e api.Errno, text string) {
	t.Helper()
	if gotN, gotE := Points(x); gotN != n || gotE != e {
		t.Errorf("Points(%v): %d, %d, not %d, %d", x, gotN, gotE, n, e)
	}
	if got := Text(x); got != text {
		t.Errorf("Text(%v): %q, not %q", x, got, text)
	}
}

// rateText is a rate's text.
func rateText(n api.Rate) string {
	return fmt.Sprintf("%d.%02d%%", n/100, n%100)
}

func TestPointsOfWhatIsNoRate(t *testing.T) {
	for _, x := range nans {
		checkPoints(t, x, 0, api.ErrArg, "-")
	}
	// what is below 0 is wrong, even where it would be rounded to 0
	for _, x := range []float64{bottom, -huge, -1e300, -10000, -1, -0.5, -0.0001, -0.00005, -0.00001, -1e-300, -normal, -tiny} {
		checkPoints(t, x, 0, api.ErrArg, "<")
	}
	// 1e305 times 10000 is endless itself; 1e16 times it is no int64
	for _, x := range []float64{endless, huge, 1e305, 1e300, 1e16, 922337203685477.5807, 1 << 53, 10000, 2, 1.5, 1.0001, 1.00006} {
		checkPoints(t, x, 0, api.ErrOver, ">")
	}
}

func TestPointsOfNought(t *testing.T) {
	checkPoints(t, 0, 0, api.OK, "0.00%")
	checkPoints(t, minus, 0, api.OK, "0.00%")
	checkPoints(t, Ratio(0, -3), 0, api.OK, "0.00%")
}

func TestPoints(t *testing.T) {
	for _, c := range []struct {
		x    float64
		n    api.Rate
		text string
	}{
		{tiny, 0, "0.00%"},
		{normal, 0, "0.00%"},
		{1e-300, 0, "0.00%"},
		{0.0001, 1, "0.01%"},
		{0.0009, 9, "0.09%"},
		{0.001, 10, "0.10%"},
		{0.0099, 99, "0.99%"},
		{0.01, 100, "1.00%"},
		{0.029, 290, "2.90%"},
		{0.0307, 307, "3.07%"},
		{0.1, 1000, "10.00%"},
		{1.0 / 3, 3333, "33.33%"},
		{2.0 / 3, 6667, "66.67%"},
		{0.5, 5000, "50.00%"},
		{0.9999, 9999, "99.99%"},
		{down(1), 10000, "100.00%"},
		{1, 10000, "100.00%"},
		{up(1), 10000, "100.00%"},
		// above the whole, but rounded to it
		{1.00001, 10000, "100.00%"},
		{1.00004, 10000, "100.00%"},
	} {
		checkPoints(t, c.x, c.n, api.OK, c.text)
	}
	checkPoints(t, Ratio(1, 3), 3333, api.OK, "33.33%")
	checkPoints(t, Ratio(-1, -3), 3333, api.OK, "33.33%")
	checkPoints(t, Ratio(0, 0), 0, api.ErrArg, "-")
	checkPoints(t, Ratio(1, 0), 0, api.ErrOver, ">")
	checkPoints(t, Ratio(-1, 0), 0, api.ErrArg, "<")
	checkPoints(t, Ratio(greatest, greatest-1), 10000, api.OK, "100.00%")
}

func TestPointsOfTwoToTheEvenOne(t *testing.T) {
	// odd parts of 32: the product is a half, and nothing of it is rounded
	for _, c := range []struct {
		x float64
		n api.Rate
	}{
		{1.0 / 32, 312},       // 312.5
		{3.0 / 32, 938},       // 937.5
		{5.0 / 32, 1562},      // 1562.5
		{7.0 / 32, 2188},      // 2187.5
		{29.0 / 32, 9062},     // 9062.5
		{31.0 / 32, 9688},     // 9687.5
		{up(1.0 / 32), 313},   // a little above the middle
		{down(3.0 / 32), 937}, // a little below
	} {
		checkPoints(t, c.x, c.n, api.OK, rateText(c.n))
	}
	// no float64 is 0.00005, but the nearest one, times 10000 as Go multiplies, is 0.5; so the others, above or below
	checkPoints(t, 0.00005, 0, api.OK, "0.00%")
	checkPoints(t, 0.00025, 2, api.OK, "0.02%")
	checkPoints(t, 0.00035, 4, api.OK, "0.04%")
	checkPoints(t, 0.00045, 4, api.OK, "0.04%")
	// the nearest to 0.00015 stays below the middle, that to 1.00005 above it
	checkPoints(t, 0.00015, 1, api.OK, "0.01%")
	checkPoints(t, 1.00005, 0, api.ErrOver, ">")
	checkPoints(t, down(1.00005), 10000, api.OK, "100.00%")
	// just below 0.5: adding 0.5 to it would give 1
	checkPoints(t, 0.49999999999999994/10000, 0, api.OK, "0.00%")
}

func TestPointsOfEachRate(t *testing.T) {
	for n := range api.Rate(api.Whole + 1) {
		checkPoints(t, Ratio(n, api.Whole), n, api.OK, rateText(n))
		// a little beside a rate, on both sides
		checkPoints(t, Ratio(n*1000+499, api.Whole*1000), n, api.OK, rateText(n))
		if n > 0 {
			checkPoints(t, Ratio(n*1000-499, api.Whole*1000), n, api.OK, rateText(n))
		}
	}
	for n := range api.Rate(1000) {
		checkPoints(t, Ratio(api.Whole+1+n, api.Whole), 0, api.ErrOver, ">")
		checkPoints(t, Ratio(-1-n, api.Whole), 0, api.ErrArg, "<")
	}
}

// exactPoints is Points by numbers of any size: the product is brought to a float64, and that one is rounded.
func exactPoints(x float64) (api.Rate, api.Errno) {
	product, _ := new(big.Float).SetPrec(200).Mul(big.NewFloat(x), big.NewFloat(api.Whole)).Float64()
	if product > 2*api.Whole {
		return 0, api.ErrOver
	}
	whole, _ := big.NewFloat(product).Int64()
	rest := product - float64(whole)
	if rest > 0.5 || rest == 0.5 && whole%2 == 1 {
		whole++
	}
	if whole > api.Whole {
		return 0, api.ErrOver
	}
	return whole, api.OK
}

func checkAny(t *testing.T, x float64) {
	t.Helper()
	if math.IsNaN(x) {
		checkPoints(t, x, 0, api.ErrArg, "-")
		return
	}
	if x < 0 {
		checkPoints(t, x, 0, api.ErrArg, "<")
		return
	}
	n, e := exactPoints(x)
	text := ">"
	if e == api.OK {
		text = rateText(n)
	}
	checkPoints(t, x, n, e, text)
}

func TestPointsOfAnyFraction(t *testing.T) {
	for _, x := range rising {
		checkAny(t, x)
	}
	r := rand.New(rand.NewPCG(3, 4))
	for range 50000 {
		checkAny(t, anyFraction(r))
	}
}

// The middle between each two rates, and the float64s beside it.
func TestPointsBesideTheMiddle(t *testing.T) {
	for n := range api.Rate(api.Whole + 2) {
		x := Ratio(2*n+1, 2*api.Whole)
		for _, y := range []float64{down(down(x)), down(x), x, up(x), up(up(x))} {
			checkAny(t, y)
		}
	}
}

// P2.1, Compare.

func TestCompareRises(t *testing.T) {
	for i, a := range rising {
		for j, b := range rising {
			want := 0
			if i < j {
				want = -1
			} else if i > j {
				want = 1
			}
			if c := Compare(a, b); c != want {
				t.Errorf("Compare(%v, %v): %d, not %d", a, b, c, want)
			}
		}
	}
}

func TestCompareOfNaN(t *testing.T) {
	for _, a := range nans {
		for _, b := range nans {
			if c := Compare(a, b); c != 0 {
				t.Errorf("Compare(%x, %x): %d", math.Float64bits(a), math.Float64bits(b), c)
			}
		}
		for _, b := range rising {
			if c, d := Compare(a, b), Compare(b, a); c != -1 || d != 1 {
				t.Errorf("Compare(%x, %v): %d, and the other way %d", math.Float64bits(a), b, c, d)
			}
		}
	}
}

func TestCompareOfNought(t *testing.T) {
	for i, c := range []struct {
		a, b float64
		want int
	}{{minus, 0, -1}, {0, minus, 1}, {0, 0, 0}, {minus, minus, 0}, {minus, tiny, -1}, {minus, -tiny, 1}, {0, tiny, -1}, {0, -tiny, 1}} {
		if got := Compare(c.a, c.b); got != c.want {
			t.Errorf("%d: Compare(%v, %v): %d, not %d", i, c.a, c.b, got, c.want)
		}
	}
}

func TestCompareOfAnyFraction(t *testing.T) {
	r := rand.New(rand.NewPCG(5, 6))
	for range 50000 {
		a, b := anyFraction(r), anyFraction(r)
		if math.IsNaN(a) || math.IsNaN(b) || a == 0 || b == 0 {
			continue
		}
		if c, want := Compare(a, b), big.NewFloat(a).Cmp(big.NewFloat(b)); c != want {
			t.Errorf("Compare(%v, %v): %d, not %d", a, b, c, want)
		}
		if c, d := Compare(a, a), Compare(up(a), a); c != 0 || d != 1 && !math.IsInf(a, 1) {
			t.Errorf("Compare with %v: %d, %d", a, c, d)
		}
	}
}

// P2: the same call answers the same, whatever was asked in between.

func TestAnswersStay(t *testing.T) {
	first := map[int]string{}
	for range 3 {
		for i, x := range append(append([]float64{}, nans...), rising...) {
			n, e := Points(x)
			told := fmt.Sprint(Of(x), n, e, Compare(x, 0.5), Text(x), math.Float64bits(Ratio(int64(i), 7)))
			if before, ok := first[i]; ok && before != told {
				t.Errorf("%v: %s, and %s before", x, told, before)
			}
			first[i] = told
		}
	}
}
