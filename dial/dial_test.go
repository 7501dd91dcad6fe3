package dial

import (
	"math"
	"math/big"
	"math/rand/v2"
	"testing"

	"souk/api"
)

const greatest, least = math.MaxInt64, math.MinInt64

// model is what the chapter says of a tick, in numbers of any size.
type model struct {
	cut          bool
	period, next int64
	e            api.Errno
}

func modelOf(now int64) model {
	step, one := big.NewInt(api.Cut), big.NewInt(1)
	// Div of math/big rounds down for a divisor above 0, so rest is never below 0.
	count, rest := new(big.Int).DivMod(big.NewInt(now), step, new(big.Int))
	if count.Sign() < 0 {
		count.SetInt64(0)
	}
	m := model{cut: now > 0 && rest.Sign() == 0, period: count.Int64()}
	next := new(big.Int).Mul(new(big.Int).Add(count, one), step)
	if !next.IsInt64() {
		m.e = api.ErrOver
		return m
	}
	m.next = next.Int64()
	return m
}

// wantTick holds all that is told of a tick.
func wantTick(t *testing.T, now int64, want model) {
	t.Helper()
	if c := IsCut(now); c != want.cut {
		t.Errorf("IsCut(%d) = %v", now, c)
	}
	if n := Period(now); n != want.period {
		t.Errorf("Period(%d) = %d, want %d", now, n, want.period)
	}
	if n, e := Next(now); n != want.next || e != want.e {
		t.Errorf("Next(%d) = %d, %d, want %d, %d", now, n, e, want.next, want.e)
	}
}

// edges are ticks at cut-offs and next to them, near 0, far from it, and at the edges of int64.
func edges() []int64 {
	l := []int64{least, least + 1, least + 7, least + 8, least + 9, greatest, greatest - 1}
	for _, base := range []int64{0, 8, 16, 800, 1 << 20, 1 << 31, 1 << 32, 1 << 50, 8 * 123456789012345, 1 << 62, greatest - 7, greatest - 15, greatest - 23} {
		for d := int64(-9); d <= 9; d++ {
			if base > greatest-9 && d > greatest-base {
				continue
			}
			l = append(l, base+d, -(base + d))
		}
	}
	return l
}

// P15.1, near 0: 0 is no cut-off, and none is below it.
func TestNearNothing(t *testing.T) {
	for _, c := range []struct {
		now  int64
		want model
	}{
		{-17, model{false, 0, 8, 0}},
		{-16, model{false, 0, 8, 0}},
		{-9, model{false, 0, 8, 0}},
		{-8, model{false, 0, 8, 0}},
		{-7, model{false, 0, 8, 0}},
		{-1, model{false, 0, 8, 0}},
		{0, model{false, 0, 8, 0}},
		{1, model{false, 0, 8, 0}},
		{7, model{false, 0, 8, 0}},
		{8, model{true, 1, 16, 0}},
		{9, model{false, 1, 16, 0}},
		{15, model{false, 1, 16, 0}},
		{16, model{true, 2, 24, 0}},
		{17, model{false, 2, 24, 0}},
		{24, model{true, 3, 32, 0}},
	} {
		wantTick(t, c.now, c.want)
	}
}

// P15.1, far from 0: cut-offs, and the ticks next to each of them.
func TestFarFromNothing(t *testing.T) {
	for _, count := range []int64{100, 12345, 1 << 28, 1<<29 + 1, 1 << 40, 1<<47 - 1, 1 << 59, 1<<60 - 3} {
		cut := 8 * count
		wantTick(t, cut-1, model{false, count - 1, cut, 0})
		wantTick(t, cut, model{true, count, cut + 8, 0})
		wantTick(t, cut+1, model{false, count, cut + 8, 0})
		for _, now := range []int64{-cut - 1, -cut, -cut + 1} {
			wantTick(t, now, model{false, 0, 8, 0})
		}
	}
}

// P15.1, at the edges of int64: behind 2^63 - 8 there is no cut-off, and with ErrOver it answers 0.
func TestEdgesOfTicks(t *testing.T) {
	const last = greatest - 7
	const most = 1<<60 - 1
	for _, c := range []struct {
		now  int64
		want model
	}{
		{least, model{false, 0, 8, 0}},
		{least + 1, model{false, 0, 8, 0}},
		{least + 8, model{false, 0, 8, 0}},
		{-last, model{false, 0, 8, 0}},
		{last - 9, model{false, most - 2, last - 8, 0}},
		{last - 8, model{true, most - 1, last, 0}},
		{last - 7, model{false, most - 1, last, 0}},
		{last - 1, model{false, most - 1, last, 0}},
		{last, model{true, most, 0, api.ErrOver}},
		{last + 1, model{false, most, 0, api.ErrOver}},
		{greatest - 1, model{false, most, 0, api.ErrOver}},
		{greatest, model{false, most, 0, api.ErrOver}},
	} {
		wantTick(t, c.now, c.want)
	}
}

// P15.1: each edge, each tick of some beside 0, and random ones, against numbers of any size.
func TestTicksByModel(t *testing.T) {
	for _, now := range edges() {
		wantTick(t, now, modelOf(now))
	}
	for now := int64(-1000); now <= 1000; now++ {
		wantTick(t, now, modelOf(now))
	}
	r := rand.New(rand.NewPCG(15, 1))
	for range 20000 {
		now := int64(r.Uint64()) >> r.IntN(64)
		wantTick(t, now, modelOf(now))
		if now < greatest-8 && now > least+8 {
			near := now - now%8 + int64(r.IntN(3)) - 1
			wantTick(t, near, modelOf(near))
		}
	}
}

// wantNext holds that Next is above now, a cut-off, the first one, and one more of them.
func wantNext(t *testing.T, now int64) {
	t.Helper()
	next, e := Next(now)
	if e != api.OK {
		if next != 0 || e != api.ErrOver {
			t.Errorf("Next(%d) = %d, %d", now, next, e)
		}
		noneBehind(t, now)
		return
	}
	if next <= now || !IsCut(next) {
		t.Errorf("Next(%d) = %d", now, next)
		return
	}
	for between := max(now, next-20) + 1; between < next; between++ {
		if IsCut(between) {
			t.Errorf("Next(%d) = %d, but %d is a cut-off", now, next, between)
		}
	}
	if p, q := Period(now), Period(next); q != p+1 {
		t.Errorf("Period(%d) = %d, Period(%d) = %d", now, p, next, q)
	}
}

// noneBehind holds that there is no cut-off above now, up to the greatest tick.
func noneBehind(t *testing.T, now int64) {
	t.Helper()
	if now < greatest-100 {
		t.Errorf("Next(%d) answers an error", now)
		return
	}
	for n := now; n < greatest; n++ {
		if IsCut(n + 1) {
			t.Errorf("Next(%d) answers an error, but %d is a cut-off", now, n+1)
		}
	}
}

// P15.1: what Next is to now, to IsCut and to Period.
func TestNextIsTheFirst(t *testing.T) {
	for _, now := range edges() {
		wantNext(t, now)
	}
	for now := int64(-100); now <= 1000; now++ {
		wantNext(t, now)
	}
	r := rand.New(rand.NewPCG(15, 2))
	for range 5000 {
		wantNext(t, int64(r.Uint64())>>r.IntN(64))
	}
}

// wantStep holds that Period, from the tick ahead to this one, rises by one at a cut-off, and stays elsewhere.
func wantStep(t *testing.T, now int64) {
	t.Helper()
	rise := int64(0)
	if IsCut(now) {
		rise = 1
	}
	if p, q := Period(now-1), Period(now); q-p != rise {
		t.Errorf("Period(%d) = %d, Period(%d) = %d, IsCut %v", now-1, p, now, q, rise == 1)
	}
}

// P15.1: Period never falls, and rises just at cut-offs.
func TestPeriodRises(t *testing.T) {
	for _, from := range []int64{least + 1, -1 << 40, -1000, -10, 0, 1 << 40, 1 << 62, greatest - 999} {
		for d := int64(0); d < 1000; d++ {
			wantStep(t, from+d)
		}
	}
}

// P15.1: as many ticks are cut-offs, from the first on, as Period tells.
func TestPeriodCounts(t *testing.T) {
	count := int64(0)
	for now := int64(-50); now <= 5000; now++ {
		if IsCut(now) {
			count++
		}
		if p := Period(now); p != count {
			t.Fatalf("Period(%d) = %d, want %d", now, p, count)
		}
	}
}

// P15.1: Next, again and again, goes through all cut-offs, and ends at the last one.
func TestNextGoesOn(t *testing.T) {
	for now, want := int64(least), int64(8); want <= 800; want += 8 {
		n, e := Next(now)
		if n != want || e != api.OK {
			t.Fatalf("Next(%d) = %d, %d, want %d", now, n, e, want)
		}
		now = n
	}
	now, steps := int64(greatest-8*100-7), 0
	for e := api.OK; e == api.OK; steps++ {
		if steps > 200 {
			t.Fatal("Next goes on behind the greatest tick")
		}
		var n int64
		if n, e = Next(now); e == api.OK {
			now = n
		}
	}
	if now != greatest-7 || steps != 101 {
		t.Errorf("the last one is %d, by %d steps", now, steps)
	}
}

// P15.1: 1, 2, 4, and 8 from then on.
func TestBackoff(t *testing.T) {
	for _, c := range []struct{ tries, want int64 }{
		{-3, 1}, {-2, 1}, {-1, 1}, {0, 1}, {1, 2}, {2, 4}, {3, 8}, {4, 8}, {5, 8}, {8, 8}, {16, 8},
		{31, 8}, {32, 8}, {33, 8}, {60, 8}, {61, 8}, {62, 8}, {63, 8}, {64, 8}, {65, 8}, {70, 8},
		{1 << 31, 8}, {1 << 32, 8}, {1<<32 + 1, 8}, {1 << 62, 8}, {greatest - 1, 8}, {greatest, 8},
		{-64, 1}, {-1 << 31, 1}, {-1 << 32, 1}, {1 - 1<<32, 1}, {-1 << 62, 1}, {least + 1, 1}, {least, 1},
	} {
		if n := Backoff(c.tries); n != c.want {
			t.Errorf("Backoff(%d) = %d, want %d", c.tries, n, c.want)
		}
	}
}

// P15.1: each number of tries beside 0, and random ones, against powers of any size; never below 1, nor above 8, nor less than behind one try fewer.
func TestBackoffByModel(t *testing.T) {
	ahead := int64(1)
	for tries := int64(-3); tries <= 70; tries++ {
		want := new(big.Int).Lsh(big.NewInt(1), uint(max(tries, 0)))
		if most := big.NewInt(api.Cap); want.Cmp(most) > 0 {
			want = most
		}
		n := Backoff(tries)
		if n != want.Int64() {
			t.Errorf("Backoff(%d) = %d, want %v", tries, n, want)
		}
		if n < ahead || n < 1 || n > 8 {
			t.Errorf("Backoff(%d) = %d, one try fewer %d", tries, n, ahead)
		}
		ahead = n
	}
	r := rand.New(rand.NewPCG(15, 3))
	for range 5000 {
		tries := int64(r.Uint64()) >> r.IntN(64)
		want := int64(1) << min(max(tries, 0), 3)
		if n := Backoff(tries); n != want {
			t.Errorf("Backoff(%d) = %d, want %d", tries, n, want)
		}
	}
}

// The chapter's examples.
func TestExamples(t *testing.T) {
	if n, e := Next(8); n != 16 || e != api.OK {
		t.Errorf("Next(8) = %d, %d", n, e)
	}
	if n := Backoff(2); n != 4 {
		t.Errorf("Backoff(2) = %d", n)
	}
}

// told is all that is told of a number.
func told(n int64) [5]int64 {
	cut := int64(0)
	if IsCut(n) {
		cut = 1
	}
	next, e := Next(n)
	return [5]int64{cut, Period(n), next, int64(e), Backoff(n)}
}

// P2: asked again, behind other calls and in another order, the same is told.
func TestToldAgain(t *testing.T) {
	l := edges()
	first := make([][5]int64, len(l))
	for i, n := range l {
		first[i] = told(n)
	}
	r := rand.New(rand.NewPCG(15, 4))
	for _, i := range r.Perm(len(l)) {
		if again := told(l[i]); again != first[i] {
			t.Errorf("of %d %v is told, then %v", l[i], first[i], again)
		}
	}
}
