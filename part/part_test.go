package part

import (
	"fmt"
	"math"
	"math/big"
	"math/bits"
	"math/rand/v2"
	"slices"
	"strconv"
	"strings"
	"testing"

	"souk/api"
	"souk/fee"
	"souk/plan"
)

const most = api.MaxAmount

// share is a party's, with its weight.
func share(party string, weight int64) api.Share {
	return api.Share{Party: party, Weight: weight}
}

// shares are those of so many parties, the first of them a, with a weight each.
func shares(w ...int64) []api.Share {
	var l []api.Share
	for i, n := range w {
		l = append(l, share(string(rune('a'+i)), n))
	}
	return l
}

// wantRight holds what Right answers, and that Of answers it too, with nothing beside it.
func wantRight(t *testing.T, l []api.Share, want api.Errno) {
	t.Helper()
	if e := Right(l...); e != want {
		t.Errorf("Right(%.500q) = %d, want %d", fmt.Sprint(l), e, want)
	}
	for _, n := range []int64{0, 1, 100, most} {
		p, e := Of(n, fee.Costs{}, l...)
		if e != want || want != api.OK && len(p) != 0 || want == api.OK && len(p) != len(l) {
			t.Errorf("Of(%d, none, %.500q) = %v, %d, want %d", n, fmt.Sprint(l), p, e, want)
		}
	}
}

// wantParts holds an amount's parts.
func wantParts(t *testing.T, n int64, c fee.Costs, l []api.Share, want ...Part) {
	t.Helper()
	if p, e := Of(n, c, l...); e != api.OK || !slices.Equal(p, want) {
		t.Errorf("Of(%d, %v, %v) = %v, %d, want %v", n, c, l, p, e, want)
	}
}

// wantErrArg holds that an amount has no parts.
func wantErrArg(t *testing.T, n int64, c fee.Costs, l ...api.Share) {
	t.Helper()
	if p, e := Of(n, c, l...); len(p) != 0 || e != api.ErrArg {
		t.Errorf("Of(%d, %v, %.500q) = %v, %d, want ErrArg alone", n, c, fmt.Sprint(l), p, e)
	}
}

// wantNets holds the nets of an amount without costs, by weights.
func wantNets(t *testing.T, n int64, w []int64, nets ...int64) {
	t.Helper()
	l := shares(w...)
	var want []Part
	for i, net := range nets {
		want = append(want, Part{Party: l[i].Party, Net: net})
	}
	wantParts(t, n, fee.Costs{}, l, want...)
}

// The examples.

func TestTheExample(t *testing.T) {
	wantParts(t, 100, fee.Costs{}, []api.Share{share("ann", 1), share("bob", 2)}, Part{Party: "ann", Net: 33}, Part{Party: "bob", Net: 67})
}

func TestASaleByItsPlan(t *testing.T) {
	rules, _, _ := plan.Parse("tier 0 10%; cap 50; tax 20%; reserve 5% 30;")
	c, e := fee.Of(rules, "", 1000)
	if e != api.OK {
		t.Fatal(e)
	}
	wantParts(t, 1000, c, []api.Share{share("ann", 3), share("bob", 1)}, Part{"ann", 705, 35}, Part{"bob", 235, 11})
	wantParts(t, 1000, c, []api.Share{share("bob", 1), share("ann", 3)}, Part{"bob", 235, 11}, Part{"ann", 705, 35})
}

// Right: how many shares there are.

func TestHowManyShares(t *testing.T) {
	if api.MaxShares != 8 || api.MaxName != 20 || api.MaxAmount != 1<<50 || api.Whole != 10000 {
		t.Fatal("the limits are others")
	}
	wantRight(t, nil, api.ErrArg)
	wantRight(t, []api.Share{}, api.ErrArg)
	l := shares(1, 1, 1, 1, 1, 1, 1, 1, 1, 1, 1, 1)
	wantRight(t, l[:0], api.ErrArg)
	wantRight(t, l[3:3], api.ErrArg)
	for n := 1; n <= 8; n++ {
		wantRight(t, l[:n], api.OK)
		wantRight(t, l[12-n:], api.OK)
	}
	for n := 9; n <= 12; n++ {
		wantRight(t, l[:n], api.ErrArg)
	}
	wantRight(t, make([]api.Share, 9), api.ErrArg)
	wantRight(t, make([]api.Share, 8), api.ErrArg)
}

// How many there are comes ahead of each of them: nine with a party twice are ErrArg.
func TestTooManyAheadOfTwice(t *testing.T) {
	l := shares(1, 1, 1, 1, 1, 1, 1, 1, 1)
	l[1] = l[0]
	wantRight(t, l, api.ErrArg)
	wantRight(t, l[:8], api.ErrTwice)
	l = shares(1, 1, 1, 1, 1, 1, 1, 1, 1)
	l[8] = l[0]
	wantRight(t, l, api.ErrArg)
	wantRight(t, l[1:], api.OK)
	for range 100 {
		l = append(l, l...)[:20]
		wantRight(t, l, api.ErrArg)
	}
}

func TestVeryManyShares(t *testing.T) {
	l := make([]api.Share, 1<<18)
	for i := range l {
		l[i] = share(strconv.Itoa(i), 1)
	}
	wantRight(t, l, api.ErrArg)
	wantRight(t, l[len(l)-8:], api.OK)
}

// Right: parties and weights.

// wantOne holds what Right answers of a share alone, and wherever it stands among others.
func wantOne(t *testing.T, s api.Share, want api.Errno) {
	t.Helper()
	others := []api.Share{share("other 1", 1), share("other 2", 2), share("other 3", 3), share("other 4", 4), share("other 5", 5), share("other 6", 6), share("other 7", most)}
	for n := range len(others) + 1 {
		for k := range n + 1 {
			wantRight(t, slices.Insert(slices.Clone(others[:n]), k, s), want)
		}
	}
}

func TestParties(t *testing.T) {
	for _, party := range []string{"a", "ann", "A", " ", "-", ":", "0", "\x00", "\x00\x00", "\n", "\xff", "ä", "ann ", " ann", "ann:3", "\xc3", strings.Repeat("\xff", 20), strings.Repeat("\x00", 20), strings.Repeat("ä", 10), strings.Repeat("a", 19), strings.Repeat("a", 20)} {
		wantOne(t, share(party, 1), api.OK)
	}
	// Bytes are counted, not letters.
	for _, party := range []string{"", strings.Repeat("a", 21), strings.Repeat("a", 22), strings.Repeat("\x00", 21), strings.Repeat("\xff", 21), strings.Repeat("ä", 11), strings.Repeat("ä", 20), strings.Repeat("€", 7), strings.Repeat("b", 1<<16)} {
		wantOne(t, share(party, 1), api.ErrArg)
	}
}

func TestPartiesOfEachByte(t *testing.T) {
	for b := range 256 {
		for _, n := range []int{1, 20} {
			wantRight(t, []api.Share{share(strings.Repeat(string([]byte{byte(b)}), n), 1)}, api.OK)
		}
		wantRight(t, []api.Share{share(strings.Repeat(string([]byte{byte(b)}), 21), 1)}, api.ErrArg)
	}
}

func TestPartiesOfEachLength(t *testing.T) {
	for n := range 300 {
		want := api.OK
		if n < 1 || n > 20 {
			want = api.ErrArg
		}
		wantRight(t, []api.Share{share(strings.Repeat("x", n), 5)}, want)
		wantRight(t, []api.Share{share("a", 5), share(strings.Repeat("x", n), 5)}, want)
	}
}

func TestWeights(t *testing.T) {
	for _, w := range []int64{1, 2, 3, 10000, 10001, 1 << 31, 1 << 32, most - 1, most} {
		wantOne(t, share("ann", w), api.OK)
	}
	for _, w := range []int64{0, -1, -2, -most, -most - 1, most + 1, most + 2, 1 << 51, 1 << 62, math.MaxInt64 - 1, math.MaxInt64, math.MinInt64, math.MinInt64 + 1} {
		wantOne(t, share("ann", w), api.ErrArg)
		wantOne(t, share("", w), api.ErrArg)
	}
	l := shares(most, most, most, most, most, most, most, most)
	wantRight(t, l, api.OK)
	l[7].Weight++
	wantRight(t, l, api.ErrArg)
}

// Right: a party that stands twice.

func TestPartiesTwice(t *testing.T) {
	for _, party := range []string{"ann", "z", "\x00", "\xff\xfe", " ", strings.Repeat("a", 20)} {
		for _, w := range [][2]int64{{1, 1}, {1, 2}, {most, 1}, {1, most}} {
			for n := 2; n <= 8; n++ {
				for j := 1; j < n; j++ {
					for i := range j {
						l := shares(1, 2, 3, 4, 5, 6, 7, 8)[:n]
						l[i], l[j] = share(party, w[0]), share(party, w[1])
						wantRight(t, l, api.ErrTwice)
						wantRight(t, l[:j], api.OK)
						wantRight(t, slices.Delete(slices.Clone(l), i, i+1), api.OK)
					}
				}
			}
		}
	}
	wantRight(t, []api.Share{share("a", 1), share("a", 1), share("a", 1)}, api.ErrTwice)
}

// A party that is like another one isn't it.
func TestPartiesThatAreAlike(t *testing.T) {
	wantRight(t, []api.Share{share("ann", 1), share("Ann", 1), share("ann ", 1), share(" ann", 1), share("an", 1), share("anna", 1), share("ann\x00", 1), share("änn", 1)}, api.OK)
	a, b := strings.Repeat("a", 19), strings.Repeat("b", 19)
	wantRight(t, []api.Share{share(a+"b", 1), share(a+"a", 1), share("b"+a, 1), share(a, 1), share(b+"a", 1), share(b, 1), share("a"+b, 1), share("a", 1)}, api.OK)
	// Bytes that are no letters aren't all one letter.
	wantRight(t, []api.Share{share("\xff", 1), share("\xfe", 1), share("\xc3", 1), share("\xef\xbf\xbd", 1)}, api.OK)
	wantRight(t, []api.Share{share("\xff", 1), share("\xfe", 1), share("\xff", 1)}, api.ErrTwice)
	// The same letter written otherwise isn't the same bytes.
	wantRight(t, []api.Share{share("\u00e4", 1), share("a\u0308", 1)}, api.OK)
}

// The same bytes in another place are the same party.
func TestPartiesTwiceInOtherMemory(t *testing.T) {
	one, other := strings.Clone("ann"), string([]byte{'a', 'n', 'n'})
	wantRight(t, []api.Share{share(one, 1), share("x", 1), share(other, 1)}, api.ErrTwice)
	whole := "annann"
	wantRight(t, []api.Share{share(whole[:3], 1), share(whole[3:], 1)}, api.ErrTwice)
}

// Of several errors, which one.

func TestTheFirstWrongShareDecides(t *testing.T) {
	wrong := []api.Share{share("", 1), share("x", 0), share("y", -1), share("z", most+1), share(strings.Repeat("a", 21), 1)}
	for _, s := range wrong {
		for n := 3; n <= 8; n++ {
			for j := 1; j < n; j++ { // there a party stands for the second time
				for k := range n { // and there the other wrong share
					if k == j || j == 1 && k == 0 {
						continue
					}
					l := shares(1, 2, 3, 4, 5, 6, 7, 8)[:n]
					twin := 0
					if k == 0 {
						twin = 1
					}
					l[j].Party, l[k] = l[twin].Party, s
					want := api.ErrTwice
					if k < j {
						want = api.ErrArg
					}
					wantRight(t, l, want)
				}
			}
		}
	}
}

// A share that is wrong in two ways: what may not be comes ahead of what stands twice.
func TestAWrongShareOfAPartyAhead(t *testing.T) {
	for _, w := range []int64{0, -1, most + 1, math.MaxInt64, math.MinInt64} {
		wantRight(t, []api.Share{share("ann", 1), share("ann", w)}, api.ErrArg)
		wantRight(t, []api.Share{share("ann", 1), share("bob", 1), share("ann", w)}, api.ErrArg)
		wantRight(t, []api.Share{share("ann", 1), share("ann", 1), share("ann", w)}, api.ErrTwice)
		wantRight(t, []api.Share{share("ann", w), share("ann", 1)}, api.ErrArg)
	}
}

// Of: the amount and the costs.

func TestAmountsAtTheirEdges(t *testing.T) {
	one := share("ann", 5)
	for _, n := range []int64{0, 1, 2, 9999, most - 1, most} {
		wantParts(t, n, fee.Costs{}, []api.Share{one}, Part{Party: "ann", Net: n})
		wantParts(t, n, fee.Costs{Fee: n}, []api.Share{one}, Part{Party: "ann"})
		wantParts(t, n, fee.Costs{Tax: n, Hold: 10000}, []api.Share{one}, Part{Party: "ann"})
	}
	for _, n := range []int64{-1, -2, -most, -most - 1, math.MinInt64, math.MinInt64 + 1, most + 1, most + 2, 1 << 51, 1 << 62, math.MaxInt64 - 1, math.MaxInt64} {
		for _, c := range []fee.Costs{{}, {Fee: 1}, {Tax: 1}, {Fee: most, Tax: most}, {Fee: math.MaxInt64, Tax: math.MaxInt64}, {Fee: n}, {Tax: n}, {Fee: n, Tax: n}, {Hold: 10000, Ticks: 9}} {
			wantErrArg(t, n, c, one)
			wantErrArg(t, n, c, shares(1, 2, 3)...)
		}
	}
}

// below0 are numbers that neither a fee nor a tax, nor a rate, may be.
var below0 = []int64{-1, -2, -10000, -10001, -most, -most - 1, math.MinInt64, math.MinInt64 + 1}

func TestCostsBelow0(t *testing.T) {
	one := share("ann", 5)
	for _, bad := range below0 {
		for _, n := range []int64{0, 1, 2, 100, most} {
			wantErrArg(t, n, fee.Costs{Fee: bad}, one)
			wantErrArg(t, n, fee.Costs{Tax: bad}, one)
			wantErrArg(t, n, fee.Costs{Hold: bad}, one)
			wantErrArg(t, n, fee.Costs{Fee: bad, Tax: bad, Hold: bad, Ticks: bad}, one)
			// Together they may be what an amount leaves: each one counts.
			wantErrArg(t, n, fee.Costs{Fee: bad, Tax: 1}, one)
			wantErrArg(t, n, fee.Costs{Fee: 1, Tax: bad}, one)
			wantErrArg(t, n, fee.Costs{Fee: bad, Tax: -(bad + 1)}, one)
			wantErrArg(t, n, fee.Costs{Fee: -(bad + 1), Tax: bad}, one)
		}
	}
}

func TestHoldsAtTheirEdges(t *testing.T) {
	l := []api.Share{share("ann", 1), share("bob", 3)}
	for _, h := range []int64{0, 1, 4999, 5000, 9999, 10000} {
		wantParts(t, 40000, fee.Costs{Hold: h}, l, Part{"ann", 10000, h}, Part{"bob", 30000, 3 * h})
	}
	for _, h := range []int64{10001, 10002, 20000, 1 << 32, most, most + 1, math.MaxInt64 - 1, math.MaxInt64} {
		for _, n := range []int64{0, 1, 40000, most} {
			wantErrArg(t, n, fee.Costs{Hold: h}, l...)
			wantErrArg(t, n, fee.Costs{Hold: h, Fee: n}, l...)
		}
	}
}

func TestFeeAndTaxTogether(t *testing.T) {
	l := []api.Share{share("ann", 1)}
	for _, n := range []int64{0, 1, 2, 3, 99, 100, most - 1, most} {
		for _, f := range []int64{0, 1, 2, 50, 99, 100, 101, n / 2, n - 1, n, n + 1} {
			for _, x := range []int64{0, 1, n - f - 2, n - f - 1, n - f, n - f + 1, n - f + 2, n, n + 1} {
				c := fee.Costs{Fee: f, Tax: x}
				if f < 0 || x < 0 || f+x > n {
					wantErrArg(t, n, c, l...)
				} else {
					wantParts(t, n, c, l, Part{Party: "ann", Net: n - f - x})
				}
			}
		}
	}
}

// Their sum may leave int64, and come back at either side of the amount.
func TestFeeAndTaxThatRunOver(t *testing.T) {
	great := []int64{most, most + 1, 1 << 61, 1 << 62, 1<<62 + 1, math.MaxInt64 - 1, math.MaxInt64}
	for _, n := range []int64{0, 1, 100, most - 1, most} {
		for _, f := range great {
			for _, x := range great {
				wantErrArg(t, n, fee.Costs{Fee: f, Tax: x}, share("ann", 1))
			}
			if f > n {
				wantErrArg(t, n, fee.Costs{Fee: f}, share("ann", 1))
				wantErrArg(t, n, fee.Costs{Tax: f}, share("ann", 1))
			}
			wantErrArg(t, n, fee.Costs{Fee: f, Tax: 1}, share("ann", 1))
			wantErrArg(t, n, fee.Costs{Fee: 1, Tax: f}, share("ann", 1))
		}
	}
}

// What is wrong with the amount, or the costs, comes ahead of what is wrong with the shares.
func TestCostsAheadOfShares(t *testing.T) {
	twice := []api.Share{share("ann", 1), share("ann", 1)}
	wantRight(t, twice, api.ErrTwice)
	for _, n := range []int64{-1, math.MinInt64, most + 1, math.MaxInt64} {
		wantErrArg(t, n, fee.Costs{}, twice...)
	}
	for _, c := range []fee.Costs{{Fee: -1}, {Tax: -1}, {Hold: -1}, {Hold: 10001}, {Fee: 101}, {Tax: 101}, {Fee: 51, Tax: 50}, {Fee: math.MaxInt64, Tax: math.MaxInt64}, {Fee: math.MinInt64}} {
		wantErrArg(t, 100, c, twice...)
		wantErrArg(t, 100, c)
		wantErrArg(t, 100, c, share("", 0))
		wantErrArg(t, 100, c, share("ann", 1))
	}
	for _, c := range []fee.Costs{{}, {Fee: 100}, {Tax: 100}, {Fee: 50, Tax: 50, Hold: 10000}, {Hold: 1, Ticks: -1}} {
		if p, e := Of(100, c, twice...); len(p) != 0 || e != api.ErrTwice {
			t.Errorf("Of(100, %v, twice) = %v, %d", c, p, e)
		}
		wantErrArg(t, 100, c)
		wantErrArg(t, 100, c, share("", 0))
	}
}

func TestTicksChangeNothing(t *testing.T) {
	l := []api.Share{share("ann", 3), share("bob", 1)}
	for _, ticks := range []int64{0, 1, -1, 30, 1000, 1001, most, most + 1, math.MaxInt64, math.MinInt64} {
		wantParts(t, 1000, fee.Costs{Fee: 100, Tax: 19, Hold: 2500, Ticks: ticks}, l, Part{"ann", 661, 165}, Part{"bob", 220, 55})
		wantParts(t, 0, fee.Costs{Ticks: ticks}, l, Part{Party: "ann"}, Part{Party: "bob"})
		wantErrArg(t, 1000, fee.Costs{Fee: 1001, Ticks: ticks}, l...)
	}
}

// Nets.

func TestNets(t *testing.T) {
	// The weights divide what is left.
	wantNets(t, 12, []int64{1, 2, 3}, 2, 4, 6)
	wantNets(t, 60, []int64{3, 2, 1}, 30, 20, 10)
	wantNets(t, 8, []int64{1, 1, 1, 1, 1, 1, 1, 1}, 1, 1, 1, 1, 1, 1, 1, 1)
	// They don't: what is left over goes where most was taken.
	wantNets(t, 100, []int64{1, 2}, 33, 67)
	wantNets(t, 100, []int64{2, 1}, 67, 33)
	wantNets(t, 100, []int64{1, 2, 3}, 17, 33, 50)
	wantNets(t, 10, []int64{1, 2, 3, 4, 5}, 1, 1, 2, 3, 3)
	// As much was taken: the first ones.
	wantNets(t, 10, []int64{1, 1, 1}, 4, 3, 3)
	wantNets(t, 11, []int64{7, 7, 7}, 4, 4, 3)
	wantNets(t, 1, []int64{1, 1}, 1, 0)
	wantNets(t, 1, []int64{1, 2}, 0, 1)
	wantNets(t, 2, []int64{5, 3, 3, 5}, 1, 0, 0, 1)
	for n := range int64(30) {
		var nets []int64
		for i := range int64(8) {
			nets = append(nets, (n+7-i)/8)
		}
		wantNets(t, n, []int64{9, 9, 9, 9, 9, 9, 9, 9}, nets...)
		wantNets(t, n, []int64{most, most, most, most, most, most, most, most}, nets...)
	}
	wantNets(t, 36, []int64{8, 7, 6, 5, 4, 3, 2, 1}, 8, 7, 6, 5, 4, 3, 2, 1)
	wantNets(t, 37, []int64{8, 7, 6, 5, 4, 3, 2, 1}, 9, 7, 6, 5, 4, 3, 2, 1)
}

func TestNetsOfGreatAmounts(t *testing.T) {
	wantNets(t, most, []int64{most}, most)
	wantNets(t, most, []int64{1}, most)
	wantNets(t, 1, []int64{most}, 1)
	wantNets(t, most, []int64{most, most}, most/2, most/2)
	wantNets(t, most-1, []int64{most, most}, most/2, most/2-1)
	wantNets(t, most, []int64{most, most, most}, most/3+1, most/3, most/3)
	wantNets(t, most, []int64{most, most, most, most, most, most, most, most}, most/8, most/8, most/8, most/8, most/8, most/8, most/8, most/8)
	wantNets(t, most-3, []int64{most, most, most, most, most, most, most, most}, most/8, most/8, most/8, most/8, most/8, most/8-1, most/8-1, most/8-1)
	wantNets(t, most, []int64{most, 1}, most-1, 1)
	wantNets(t, most, []int64{1, most}, 1, most-1)
	wantNets(t, most, []int64{most - 1, 1}, most-1, 1)
	wantNets(t, most, []int64{1, most, 1, most}, 0, most/2, 0, most/2)
}

// What is split is the amount without fee and tax, not one of them alone.
func TestNetsBesideCosts(t *testing.T) {
	l := shares(1, 1, 2)
	for _, c := range []fee.Costs{{Fee: 20}, {Tax: 20}, {Fee: 1, Tax: 19}, {Fee: 19, Tax: 1}, {Fee: 10, Tax: 10, Ticks: 5}} {
		wantParts(t, 100, c, l, Part{Party: "a", Net: 20}, Part{Party: "b", Net: 20}, Part{Party: "c", Net: 40})
		wantParts(t, 22, c, l, Part{Party: "a", Net: 1}, Part{Party: "b"}, Part{Party: "c", Net: 1})
		wantParts(t, 20, c, l, Part{Party: "a"}, Part{Party: "b"}, Part{Party: "c"})
		wantErrArg(t, 19, c, l...)
	}
	wantParts(t, most, fee.Costs{Fee: most - 4}, l, Part{Party: "a", Net: 1}, Part{Party: "b", Net: 1}, Part{Party: "c", Net: 2})
}

// Parts stand as their shares do, not by names, nor by weights.
func TestPartsStandInOrder(t *testing.T) {
	l := []api.Share{share("m", 2), share("z", 5), share("a", 1), share("\xff", 4), share("b", 8)}
	want := []Part{{"m", 20, 2}, {"z", 50, 5}, {"a", 10, 1}, {"\xff", 40, 4}, {"b", 80, 8}}
	for i := range l {
		wantParts(t, 200, fee.Costs{Hold: 1000}, slices.Concat(l[i:], l[:i]), slices.Concat(want[i:], want[:i])...)
	}
	slices.Reverse(l)
	slices.Reverse(want)
	wantParts(t, 200, fee.Costs{Hold: 1000}, l, want...)
}

// What is held.

func TestHeld(t *testing.T) {
	for i, c := range []struct{ net, hold, held int64 }{
		{0, 0, 0}, {0, 1, 0}, {0, 10000, 0}, {1, 0, 0}, {1, 1, 0}, {1, 5000, 0}, {1, 9999, 0}, {1, 10000, 1},
		{3, 5000, 1}, {5, 5000, 2}, {7, 5000, 3}, {99, 100, 0}, {100, 100, 1}, {101, 100, 1}, {199, 100, 1}, {200, 100, 2},
		{9999, 1, 0}, {10000, 1, 1}, {19999, 1, 1}, {12345, 290, 358}, {12350, 290, 358}, {12379, 290, 358}, {12380, 290, 359}, {3, 3333, 0}, {3, 3334, 1}, {10000, 9999, 9999}, {10001, 9999, 9999}, {9999, 9999, 9998},
		{most, 0, 0}, {most, 1, 112589990684}, {most, 5000, most / 2}, {most - 1, 5000, most/2 - 1}, {most, 9999, 1125787316851939}, {most, 10000, most}, {most - 1, 10000, most - 1},
	} {
		one := []api.Share{share("ann", 7)}
		if p, e := Of(c.net, fee.Costs{Hold: c.hold}, one...); e != api.OK || len(p) != 1 || p[0] != (Part{"ann", c.net, c.held}) {
			t.Errorf("%d: of %d at %d: %v, %d, want %d", i, c.net, c.hold, p, e, c.held)
		}
		if c.net < most-100 { // the net is held of, not the amount
			wantParts(t, c.net+100, fee.Costs{Fee: 60, Tax: 40, Hold: c.hold}, one, Part{"ann", c.net, c.held})
		}
	}
}

// Each net is rounded by itself, so that together less may be held than of all at once.
func TestHeldOfEachNet(t *testing.T) {
	wantParts(t, 8, fee.Costs{Hold: 9999}, shares(1, 1, 1, 1, 1, 1, 1, 1), Part{"a", 1, 0}, Part{"b", 1, 0}, Part{"c", 1, 0}, Part{"d", 1, 0}, Part{"e", 1, 0}, Part{"f", 1, 0}, Part{"g", 1, 0}, Part{"h", 1, 0})
	wantParts(t, 11, fee.Costs{Hold: 5000}, shares(1, 1, 1), Part{"a", 4, 2}, Part{"b", 4, 2}, Part{"c", 3, 1})
	wantParts(t, 100, fee.Costs{Hold: 1000}, shares(1, 2), Part{"a", 33, 3}, Part{"b", 67, 6})
	wantParts(t, 100, fee.Costs{Hold: 10000}, shares(1, 2), Part{"a", 33, 33}, Part{"b", 67, 67})
}

// Against a model, with P12.2.

// modelRight is Right by the shares' words, one by one.
func modelRight(l []api.Share) api.Errno {
	if len(l) == 0 || len(l) > 8 {
		return api.ErrArg
	}
	seen := map[string]bool{}
	for _, s := range l {
		switch {
		case len(s.Party) < 1, len(s.Party) > 20, s.Weight < 1, s.Weight > 1<<50:
			return api.ErrArg
		case seen[s.Party]:
			return api.ErrTwice
		}
		seen[s.Party] = true
	}
	return api.OK
}

// modelRest is what costs leave of an amount, and whether they may be.
func modelRest(n int64, c fee.Costs) (*big.Int, bool) {
	rest := big.NewInt(n)
	rest.Sub(rest, big.NewInt(c.Fee))
	rest.Sub(rest, big.NewInt(c.Tax))
	may := n <= 1<<50 && c.Fee >= 0 && c.Tax >= 0 && c.Hold >= 0 && c.Hold <= 10000 && rest.Sign() >= 0
	return rest, may
}

// quotient is a times b, divided by c and rounded down, and what remains.
func quotient(a *big.Int, b, c int64) (int64, int64) {
	q, r := new(big.Int).QuoRem(new(big.Int).Mul(a, big.NewInt(b)), big.NewInt(c), new(big.Int))
	return q.Int64(), r.Int64()
}

// modelParts is Of, by numbers of any size; what is left over is given one by one.
func modelParts(n int64, c fee.Costs, l []api.Share) ([]Part, api.Errno) {
	rest, may := modelRest(n, c)
	if !may {
		return nil, api.ErrArg
	}
	if e := modelRight(l); e != api.OK {
		return nil, e
	}
	sum, left := int64(0), rest.Int64()
	for _, s := range l {
		sum += s.Weight
	}
	parts, taken := make([]Part, len(l)), make([]int64, len(l))
	for i, s := range l {
		parts[i].Party = s.Party
		parts[i].Net, taken[i] = quotient(rest, s.Weight, sum)
		left -= parts[i].Net
	}
	for ; left > 0; left-- {
		i := slices.Index(taken, slices.Max(taken))
		parts[i].Net++
		taken[i] = -1
	}
	for i, p := range parts {
		parts[i].Held, _ = quotient(big.NewInt(p.Net), c.Hold, 10000)
	}
	return parts, api.OK
}

// wantWhole holds P12.2: fee, tax and nets are the amount together, and nothing is held that isn't there.
func wantWhole(t *testing.T, n int64, c fee.Costs, parts []Part) {
	t.Helper()
	all := c.Fee + c.Tax
	for _, p := range parts {
		all += p.Net
		if p.Held < 0 || p.Held > p.Net {
			t.Fatalf("Of(%d, %v, ..): %d is held of %d", n, c, p.Held, p.Net)
		}
	}
	if all != n {
		t.Fatalf("Of(%d, %v, ..) = %v: %d together", n, c, parts, all)
	}
}

// holdAgainstModel also answers the parts, and their error.
func holdAgainstModel(t *testing.T, n int64, c fee.Costs, l []api.Share) ([]Part, api.Errno) {
	t.Helper()
	p, e := Of(n, c, l...)
	if want, wantE := modelParts(n, c, l); e != wantE || !slices.Equal(p, want) {
		t.Fatalf("Of(%d, %v, %q) = %v, %d, want %v, %d", n, c, fmt.Sprint(l), p, e, want, wantE)
	}
	if f, want := Right(l...), modelRight(l); f != want {
		t.Fatalf("Right(%q) = %d, want %d", fmt.Sprint(l), f, want)
	}
	if e == api.OK {
		wantWhole(t, n, c, p)
	}
	return p, e
}

// TestEachShortList goes through each list of up to four shares of some sorts.
func TestEachShortList(t *testing.T) {
	sorts := []api.Share{
		share("a", 1), share("a", 3), share("b", 1), share("b", 2), share("c", 5), share("d", most), share("e", 1),
		share("", 1), share("a", 0), share("b", -1), share("f", most+1), share(strings.Repeat("g", 20), 4), share(strings.Repeat("g", 21), 4),
	}
	costs := []fee.Costs{{}, {Fee: 1, Tax: 2, Hold: 10000}, {Fee: 3, Hold: 3333, Ticks: 9}, {Hold: 10001}, {Tax: -1}}
	var all func(l []api.Share)
	all = func(l []api.Share) {
		for _, n := range []int64{-1, 0, 2, 3, 10, 11, most} {
			for _, c := range costs {
				holdAgainstModel(t, n, c, l)
			}
		}
		for i := 0; len(l) < 4 && i < len(sorts); i++ {
			all(append(slices.Clone(l), sorts[i]))
		}
	}
	all(nil)
}

// TestSmallAmounts goes through each small amount, with each fee, and each weights of three.
func TestSmallAmounts(t *testing.T) {
	for n := range int64(14) {
		for f := range n + 2 {
			for a := range int64(5) {
				for b := range int64(5) {
					for w := range int64(5) {
						holdAgainstModel(t, n, fee.Costs{Fee: f, Tax: f / 3, Hold: 700 * (a + b + w)}, shares(a+1, b+1, w+1))
					}
				}
			}
		}
	}
}

// anyNumber is one of any size up to a greatest, seldom one that may not be.
func anyNumber(r *rand.Rand, greatest int64) int64 {
	switch r.IntN(100) {
	case 0:
		return []int64{-1, greatest + 1, math.MaxInt64, math.MinInt64}[r.IntN(4)]
	case 1, 2, 3, 4:
		return greatest
	case 5, 6:
		return 0
	default:
		return r.Int64N(greatest+1) >> r.IntN(bits.Len64(uint64(greatest)))
	}
}

// anyCosts are some that an amount mostly leaves something beside.
func anyCosts(r *rand.Rand, n int64) fee.Costs {
	c := fee.Costs{Hold: anyNumber(r, 10000), Ticks: anyNumber(r, 1000)}
	if r.IntN(4) > 0 {
		half := min(max(n/2, 1), most)
		c.Fee, c.Tax = anyNumber(r, half), anyNumber(r, half)
	}
	if r.IntN(10) == 0 {
		c.Tax = n - c.Fee
	}
	return c
}

// anyShares are some that are mostly right, but not always.
func anyShares(r *rand.Rand) []api.Share {
	l := make([]api.Share, 1+r.IntN(8))
	for i := range l {
		l[i] = share(strconv.Itoa(r.IntN(300)), 1+r.Int64N(most)>>r.IntN(51))
		switch r.IntN(60) {
		case 0:
			l[i].Weight = anyNumber(r, most)
		case 1:
			l[i].Party = strings.Repeat("x", r.IntN(30))
		case 2, 3, 4, 5, 6, 7:
			l[i].Weight = []int64{1, 2, 3, most}[r.IntN(4)]
		}
	}
	if r.IntN(40) == 0 {
		l = l[:0]
	}
	if r.IntN(40) == 0 {
		l = append(l, shares(1, 1, 1, 1, 1)...)
	}
	return l
}

func TestRandomAmountsAgainstModel(t *testing.T) {
	r := rand.New(rand.NewPCG(12, 1))
	counts := map[string]int{}
	for range 60000 {
		n := anyNumber(r, most)
		c, l := anyCosts(r, n), anyShares(r)
		kept := slices.Clone(l)
		p, e := holdAgainstModel(t, n, c, l)
		again, f := Of(n, c, l...)
		if e != f || !slices.Equal(p, again) {
			t.Fatalf("asked again %v, %d, not %v, %d", again, f, p, e)
		}
		if !slices.Equal(l, kept) {
			t.Fatalf("the list is %v, want %v", l, kept)
		}
		switch _, may := modelRest(n, c); {
		case e == api.ErrTwice:
			counts["twice"]++
		case !may:
			counts["wrong costs"]++
		case e != api.OK:
			counts["wrong shares"]++
		case c.Fee+c.Tax == n:
			counts["all costs"]++
		case len(p) == 1:
			counts["one"]++
		case slices.ContainsFunc(p, func(x Part) bool { return x.Held > 0 && x.Held < x.Net }):
			counts["some held"]++
		default:
			counts["many"]++
		}
	}
	for _, sort := range []string{"twice", "wrong costs", "wrong shares", "all costs", "one", "some held", "many"} {
		if counts[sort] < 1000 {
			t.Errorf("only %d amounts of sort %q", counts[sort], sort)
		}
	}
}

// P1, P2, and the rules that hold everywhere.

// Each number at its edges, beside each other.
func TestAllEdgesTogether(t *testing.T) {
	edges := []int64{math.MinInt64, -most, -1, 0, 1, 10000, 10001, most, most + 1, math.MaxInt64}
	for _, n := range edges {
		for _, f := range edges {
			for _, x := range edges {
				for _, h := range edges {
					for _, w := range edges {
						holdAgainstModel(t, n, fee.Costs{Fee: f, Tax: x, Hold: h, Ticks: w}, shares(1, w))
					}
				}
			}
		}
	}
}

func TestTheListStays(t *testing.T) {
	whole := []api.Share{share("ann", 3), share("bob", 1), share("bob", 0), share("", -5)}
	kept := slices.Clone(whole)
	c := fee.Costs{Fee: 100, Tax: 19, Hold: 2500}
	for range 3 {
		// What lies behind the list's length is neither read nor written.
		wantRight(t, whole[:2], api.OK)
		wantParts(t, 1000, c, whole[:2], Part{"ann", 661, 165}, Part{"bob", 220, 55})
		wantParts(t, 1000, c, whole[:1], Part{"ann", 881, 220})
		wantRight(t, whole[:0], api.ErrArg)
		wantRight(t, whole, api.ErrArg)
		wantErrArg(t, 1000, c, whole...)
		if !slices.Equal(whole, kept) {
			t.Fatalf("the list is %v, want %v", whole, kept)
		}
	}
}

// An answer is new: what is done to it is seen neither in the shares nor in the next one, and the other way.
func TestAnswersAreNotShared(t *testing.T) {
	l, c := []api.Share{share("ann", 1), share("bob", 2)}, fee.Costs{Hold: 1000}
	want := []Part{{"ann", 33, 3}, {"bob", 67, 6}}
	p, _ := Of(100, c, l...)
	q, _ := Of(100, c, l...)
	if !slices.Equal(p, want) || !slices.Equal(q, want) {
		t.Fatal(p, q)
	}
	p[0], p[1] = Part{"x", 1, 1}, Part{}
	_ = append(p[:1], Part{"y", 2, 2})
	if l[0] != share("ann", 1) || l[1] != share("bob", 2) || !slices.Equal(q, want) {
		t.Error(l, q)
	}
	wantParts(t, 100, c, l, want...)
	l[0], l[1] = share("zoe", 5), share("", 0)
	if !slices.Equal(q, want) {
		t.Error(q)
	}
}

func TestOneCallSaysNothingToTheNext(t *testing.T) {
	for range 3 {
		wantRight(t, shares(1, 2), api.OK)
		wantRight(t, []api.Share{share("a", 1), share("a", 1)}, api.ErrTwice)
		wantRight(t, nil, api.ErrArg)
		wantNets(t, 10, []int64{1, 1, 1}, 4, 3, 3)
		wantErrArg(t, -1, fee.Costs{}, shares(1)...)
		wantParts(t, 10, fee.Costs{Fee: 1, Hold: 5000}, shares(1, 2), Part{"a", 3, 1}, Part{"b", 6, 3})
		wantErrArg(t, 10, fee.Costs{Fee: 11}, shares(1)...)
	}
}
