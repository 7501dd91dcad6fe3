package state

import (
	"cmp"
	"fmt"
	"math"
	"math/big"
	"math/rand/v2"
	"slices"
	"strings"
	"testing"

	"souk/api"
	"souk/attempt"
	"souk/book"
	"souk/claw"
	"souk/command"
	"souk/fee"
	"souk/lots"
	"souk/part"
	"souk/plan"
)

// model is a state by the chapter's words, with balances of any size. What a command does is done to a copy.
type model struct {
	rules    []api.Rule
	now      int64
	balances map[book.Key]*big.Int
	lots     []lots.Lot
	sales    map[string]*soldModel
	backs    map[string]*backModel
	told     map[string]Reply
	held     map[string]bool
	payouts  []attempt.Payout
	over     bool // a balance was no amount meanwhile
}

type soldModel struct {
	currency string
	shares   []api.Share
	left     []int64
}

type backModel struct {
	sale     string
	taken    []int64
	reversed bool
}

func newModel(rules []api.Rule) *model {
	return &model{rules: rules, balances: map[book.Key]*big.Int{}, sales: map[string]*soldModel{}, backs: map[string]*backModel{}, told: map[string]Reply{}, held: map[string]bool{}}
}

func (m *model) copy() *model {
	x := newModel(m.rules)
	x.now, x.lots, x.payouts = m.now, slices.Clone(m.lots), slices.Clone(m.payouts)
	for k, n := range m.balances {
		x.balances[k] = new(big.Int).Set(n)
	}
	for id, s := range m.sales {
		x.sales[id] = &soldModel{s.currency, s.shares, slices.Clone(s.left)}
	}
	for id, b := range m.backs {
		x.backs[id] = &backModel{b.sale, slices.Clone(b.taken), b.reversed}
	}
	for id, r := range m.told {
		x.told[id] = r
	}
	for p, h := range m.held {
		x.held[p] = h
	}
	return x
}

func (m *model) balance(kind, party, currency string) *big.Int {
	k := book.Key{Kind: kind, Party: party, Currency: currency}
	if m.balances[k] == nil {
		m.balances[k] = new(big.Int)
	}
	return m.balances[k]
}

func (m *model) add(kind, party, currency string, amount int64) {
	b := m.balance(kind, party, currency)
	if b.Add(b, big.NewInt(amount)); !b.IsInt64() {
		m.over = true
	}
}

// credit takes what is owed first, whatever is credited then.
func (m *model) credit(party, currency string, amount int64) {
	owed := new(big.Int).Neg(m.balance("debt", party, currency))
	if owed.Cmp(big.NewInt(amount)) >= 0 {
		m.add("debt", party, currency, amount)
		return
	}
	m.add("available", party, currency, amount-owed.Int64())
	m.add("debt", party, currency, owed.Int64())
}

func (m *model) debit(party, currency string, amount int64) {
	has := m.balance("available", party, currency)
	if has.Cmp(big.NewInt(amount)) >= 0 {
		m.add("available", party, currency, -amount)
		return
	}
	rest := amount - has.Int64()
	m.add("available", party, currency, -has.Int64())
	m.add("debt", party, currency, -rest)
}

// do does a command, or nothing, if it has an error.
func (m *model) do(c api.Command) (Reply, []api.Request, api.Errno) {
	if e := command.Right(c); e != api.OK {
		return Reply{}, nil, e
	}
	if r, ok := m.told[c.ID]; ok && c.ID != "" {
		return r, nil, api.OK
	}
	x := m.copy()
	n, l, e := x.does(c)
	if e == api.OK && x.over {
		e = api.ErrOver
	}
	if e != api.OK {
		return Reply{}, nil, e
	}
	*m = *x
	if c.ID != "" {
		m.told[c.ID] = Reply{c.Kind, n}
	}
	return Reply{c.Kind, n}, l, api.OK
}

func (m *model) does(c api.Command) (int64, []api.Request, api.Errno) {
	switch c.Kind {
	case "sale":
		return m.sell(c), nil, api.OK
	case "refund", "chargeback":
		s := m.sales[c.About]
		if s == nil {
			return 0, nil, api.ErrNone
		}
		taken, e := claw.Take(s.left, c.Amount)
		if e != api.OK {
			return 0, nil, e
		}
		if c.Kind == "chargeback" {
			m.backs[c.ID] = &backModel{c.About, taken, false}
		}
		return m.move(s, taken, -1) - taken[0] - taken[1], nil, api.OK
	case "reverse":
		b := m.backs[c.About]
		switch {
		case b == nil:
			return 0, nil, api.ErrNone
		case b.reversed:
			return 0, nil, api.ErrState
		}
		b.reversed = true
		return m.move(m.sales[b.sale], b.taken, 1), nil, api.OK
	case "hold", "free":
		delete(m.held, c.About)
		if c.Kind == "hold" {
			m.held[c.About] = true
		}
		return int64(len(m.held)), nil, api.OK
	case "tick":
		if m.now == 1<<40 {
			return 0, nil, api.ErrOver
		}
		l := m.tick()
		return int64(len(l)), l, api.OK
	}
	return m.hear(c)
}

func (m *model) sell(c api.Command) int64 {
	costs, _ := fee.Of(m.rules, c.Category, c.Amount)
	parts, _ := part.Of(c.Amount, costs, c.Shares...)
	s := &soldModel{c.Currency, slices.Clone(c.Shares), []int64{costs.Fee, costs.Tax}}
	m.add("clearing", "", c.Currency, -c.Amount)
	m.add("fee", "", c.Currency, costs.Fee)
	m.add("tax", "", c.Currency, costs.Tax)
	for _, p := range parts {
		s.left = append(s.left, p.Net)
		if p.Held > 0 {
			m.add("reserve", p.Party, c.Currency, p.Held)
			m.lots = append(m.lots, lots.Lot{Party: p.Party, Currency: c.Currency, Amount: p.Held, Due: m.now + costs.Ticks})
		}
		m.credit(p.Party, c.Currency, p.Net-p.Held)
	}
	m.sales[c.ID] = s
	return costs.Fee + costs.Tax
}

// move gives what was taken of a sale (or takes it: sign -1), and tells all of it.
func (m *model) move(s *soldModel, taken []int64, sign int64) int64 {
	sum := int64(0)
	for i, n := range taken {
		s.left[i] += sign * n
		sum += n
		switch {
		case i == 0:
			m.add("fee", "", s.currency, sign*n)
		case i == 1:
			m.add("tax", "", s.currency, sign*n)
		case sign < 0:
			m.debit(s.shares[i-2].Party, s.currency, n)
		default:
			m.credit(s.shares[i-2].Party, s.currency, n)
		}
	}
	m.add("clearing", "", s.currency, -sign*sum)
	return sum
}

func (m *model) tick() []api.Request {
	m.now++
	var later []lots.Lot
	for _, l := range m.lots {
		if l.Due > m.now {
			later = append(later, l)
			continue
		}
		m.add("reserve", l.Party, l.Currency, -l.Amount)
		m.credit(l.Party, l.Currency, l.Amount)
	}
	m.lots = later
	if m.now%8 == 0 && !m.over {
		m.begin()
	}
	var asked []api.Request
	for i := range m.payouts {
		p, r, ok := m.payouts[i].Step(m.now)
		if m.payouts[i] = p; ok {
			asked = append(asked, r)
		}
	}
	return asked
}

func (m *model) begin() {
	var keys []book.Key
	for k, n := range m.balances {
		if k.Kind == "available" && n.Cmp(big.NewInt(100)) >= 0 {
			keys = append(keys, k)
		}
	}
	slices.SortFunc(keys, func(a, b book.Key) int {
		return cmp.Or(strings.Compare(a.Party, b.Party), strings.Compare(a.Currency, b.Currency))
	})
	for _, k := range keys {
		onTheWay := slices.ContainsFunc(m.payouts, func(p attempt.Payout) bool {
			return p.Party == k.Party && p.Currency == k.Currency && p.State != "paid" && p.State != "back"
		})
		if m.held[k.Party] || onTheWay {
			continue
		}
		amount := m.balances[k].Int64()
		m.add("available", k.Party, k.Currency, -amount)
		m.add("flight", k.Party, k.Currency, amount)
		m.payouts = append(m.payouts, attempt.Payout{Key: fmt.Sprintf("%d/%s/%s", m.now/8, k.Currency, k.Party), Party: k.Party, Currency: k.Currency, Amount: amount, State: "ready", Next: m.now})
	}
}

func (m *model) hear(c api.Command) (int64, []api.Request, api.Errno) {
	for i, p := range m.payouts {
		if p.Key != c.About {
			continue
		}
		q, changed := p.Hear(c.Category, c.Amount, m.now)
		m.payouts[i] = q
		switch {
		case !changed:
			return 0, nil, api.OK
		case q.State == "paid":
			m.add("flight", p.Party, p.Currency, -p.Amount)
			m.add("paid", p.Party, p.Currency, p.Amount)
		case q.State == "back":
			m.add("flight", p.Party, p.Currency, -p.Amount)
			m.credit(p.Party, p.Currency, p.Amount)
		}
		return 1, nil, api.OK
	}
	return 0, nil, api.ErrNone
}

// lines are the model's balances, as a state tells them.
func (m *model) lines() []book.Line {
	var l []book.Line
	for k, n := range m.balances {
		if n.Sign() != 0 {
			l = append(l, book.Line{Key: k, Amount: n.Int64()})
		}
	}
	slices.SortFunc(l, func(a, b book.Line) int {
		return cmp.Or(strings.Compare(a.Kind, b.Kind), strings.Compare(a.Party, b.Party), strings.Compare(a.Currency, b.Currency))
	})
	return l
}

// run is a state beside its model, and what was asked so far.
type run struct {
	t       *testing.T
	r       *rand.Rand
	s       *State
	m       *model
	parties []string
	ids     int
	most    int64
	did     []string
	oks     map[string]int // how many commands of each Kind, and with each error, there were
}

func newRun(t *testing.T, seed uint64, text string) *run {
	rules, _, e := plan.Parse(text)
	if e != api.OK {
		t.Fatal(text, e)
	}
	s, e := New(rules...)
	if e != api.OK {
		t.Fatal(text, e)
	}
	return &run{t: t, r: rand.New(rand.NewPCG(seed, 19)), s: s, m: newModel(rules), parties: []string{"ann", "bob", "cy", "dan"}, ids: 60, most: 2000, oks: map[string]int{}}
}

func pick[T any](r *rand.Rand, l ...T) T {
	return l[r.IntN(len(l))]
}

// id is one of an event: with few of them, many commands have one that was.
func (x *run) id() string {
	return fmt.Sprint("e", x.r.IntN(x.ids))
}

// about is mostly the ID of one of l.
func about[T any](x *run, l map[string]T) string {
	if len(l) == 0 || x.r.IntN(12) == 0 {
		return x.id()
	}
	var ids []string
	for id := range l {
		ids = append(ids, id)
	}
	slices.Sort(ids)
	return pick(x.r, ids...)
}

func (x *run) amount() int64 {
	return pick(x.r, 1, 1+x.r.Int64N(20), 1+x.r.Int64N(x.most), 1+x.r.Int64N(x.most), x.most)
}

// command is any one.
func (x *run) command() api.Command {
	r := x.r
	switch r.IntN(20) {
	case 0, 1, 2, 3:
		c := api.Command{Kind: "sale", ID: x.id(), Currency: pick(r, "EUR", "EUR", "USD"), Category: pick(r, "", "", "books", "toys"), Amount: x.amount()}
		parties := slices.Clone(x.parties)
		r.Shuffle(len(parties), func(i, j int) { parties[i], parties[j] = parties[j], parties[i] })
		for _, p := range parties[:1+r.IntN(3)] {
			c.Shares = append(c.Shares, api.Share{Party: p, Weight: pick(r, 1, 2, 1+r.Int64N(9), api.MaxAmount)})
		}
		if r.IntN(30) == 0 {
			c.Shares = append(c.Shares, c.Shares[0])
		}
		return c
	case 4, 5:
		return api.Command{Kind: "refund", ID: x.id(), About: about(x, x.m.sales), Amount: x.of()}
	case 6, 7:
		return api.Command{Kind: "chargeback", ID: x.id(), About: about(x, x.m.sales), Amount: x.of()}
	case 8, 9:
		return api.Command{Kind: "reverse", ID: x.id(), About: about(x, x.m.backs)}
	case 10:
		return api.Command{Kind: pick(r, "hold", "free", "free"), ID: x.id(), About: pick(r, append(x.parties, "eve")...)}
	case 11, 12, 13:
		return x.reply()
	case 14:
		if r.IntN(4) == 0 {
			return pick(r, api.Command{}, api.Command{Kind: "tick", ID: x.id()}, api.Command{Kind: "hold", ID: x.id()}, api.Command{Kind: "refund", ID: x.id(), About: x.id()}, api.Command{Kind: "sale", ID: x.id(), Currency: "EUR", Amount: 5})
		}
	}
	return api.Command{Kind: "tick"}
}

// of is an amount that is taken of a sale: sometimes all, or about all, that is left of one.
func (x *run) of() int64 {
	if id := about(x, x.m.sales); x.m.sales[id] != nil && x.r.IntN(3) == 0 {
		sum := int64(0)
		for _, n := range x.m.sales[id].left {
			sum += n
		}
		return max(0, min(sum+x.r.Int64N(3)-1, api.MaxAmount))
	}
	return x.amount()
}

func (x *run) reply() api.Command {
	c := api.Command{Kind: "reply", About: "1/EUR/eve", Category: pick(x.r, "accepted", "declined", "unknown", "unknown", "lost"), Amount: x.r.Int64N(4)}
	if l := x.m.payouts; len(l) > 0 && x.r.IntN(10) > 0 {
		p := l[len(l)-1-min(x.r.IntN(len(l)), x.r.IntN(len(l)))]
		c.About = p.Key
		if x.r.IntN(3) > 0 {
			c.Amount = p.Attempt
		}
	}
	return c
}

// step does any command in both.
func (x *run) step() {
	c := x.command()
	x.did = append(x.did, fmt.Sprintf("%+v", c))
	given := fmt.Sprintf("%#v", c)
	r, l, e := x.s.Do(c)
	wantR, wantL, wantE := x.m.do(c)
	if r != wantR || !slices.Equal(l, wantL) || e != wantE || e != api.OK && l != nil {
		x.fail("%v %v %v, want %v %v %v", r, l, e, wantR, wantL, wantE)
	}
	if fmt.Sprintf("%#v", c) != given {
		x.fail("changed to %#v", c)
	}
	x.oks[fmt.Sprint(c.Kind, " ", e)]++
}

func (x *run) fail(form string, a ...any) {
	x.t.Helper()
	x.t.Fatalf("behind %d, %s: %s", len(x.did), strings.Join(x.did[max(0, len(x.did)-5):], "\n"), fmt.Sprintf(form, a...))
}

// look holds all that the state tells.
func (x *run) look() {
	s, m := x.s, x.m
	if s.Now() != m.now || !slices.Equal(s.Balances(), m.lines()) || !slices.Equal(s.Lots(), m.lots) || !slices.Equal(s.Payouts(), m.payouts) {
		x.fail("%d %v %v %v, want %d %v %v %v", s.Now(), s.Balances(), s.Lots(), s.Payouts(), m.now, m.lines(), m.lots, m.payouts)
	}
	for _, b := range m.lines() {
		if s.Balance(b.Kind, b.Party, b.Currency) != b.Amount || s.Balance(b.Kind, b.Party+"?", b.Currency) != 0 {
			x.fail("%v", b)
		}
	}
	for _, p := range append(x.parties, "eve", "") {
		if s.Held(p) != m.held[p] {
			x.fail("%s is held: %v", p, s.Held(p))
		}
	}
	for i := range x.ids {
		id := fmt.Sprint("e", i)
		r, told := s.Told(id)
		want, is := m.told[id]
		if r != want || told != is {
			x.fail("%s was told %v %v, want %v %v", id, r, told, want, is)
		}
		l, sold := s.Left(id)
		if sale := m.sales[id]; sold != (sale != nil) || sold && !slices.Equal(l, sale.left) || !sold && l != nil {
			x.fail("of %s are left %v %v, want %v", id, l, sold, sale)
		}
	}
}

// even holds P19.2, and that each currency's balances are nothing together.
func (x *run) even() {
	sums := map[string]*big.Int{}
	for _, b := range x.s.Balances() {
		if sums[b.Currency] == nil {
			sums[b.Currency] = new(big.Int)
		}
		sums[b.Currency].Add(sums[b.Currency], big.NewInt(b.Amount))
		if b.Kind == book.Debt && x.s.Balance(book.Available, b.Party, b.Currency) != 0 {
			x.fail("%s has something available, and debt", b.Party)
		}
	}
	for currency, sum := range sums {
		if sum.Sign() != 0 {
			x.fail("%s: %v together", currency, sum)
		}
	}
}

// plans are some of all sorts.
func plans() []string {
	return []string{
		"tier 0 10%;",
		"tier 0 0%;",
		"tier 0 10%; tax 20%; reserve 25% 3;",
		"tier 0 5%; tier 100 3%; tier 1000 1%; reserve 50% 0;",
		"tier 0 0%; reserve 100% 12;",
		"tier 0 1.5%; category books 0%; category toys 100%; tax 19%; reserve 10% 30;",
		"tier 0 10%; minimum 20; cap 60; tax 50%; reserve 33.33% 7;",
	}
}

func TestRandomCommandsAgainstModel(t *testing.T) {
	oks := map[string]int{}
	for seed := range uint64(84) {
		x := newRun(t, seed, plans()[seed%uint64(len(plans()))])
		x.oks, x.ids = oks, []int{20, 60, 300}[seed%3]
		first := map[string]Reply{}
		for range 300 {
			x.step()
			x.look()
			x.even()
			for i := range x.ids {
				id := fmt.Sprint("e", i)
				r, ok := x.s.Told(id)
				if was, is := first[id]; is && (!ok || r != was) {
					x.fail("%s was told %v first, and %v now", id, was, r)
				}
				if ok {
					first[id] = r
				}
			}
		}
	}
	// Each Kind was done, and had each error that it may have.
	for _, want := range []string{"sale 0", "sale 1", "sale 9", "refund 0", "refund 1", "refund 8", "refund 10", "chargeback 0", "chargeback 8", "chargeback 10", "reverse 0", "reverse 8", "reverse 11", "hold 0", "hold 1", "free 0", "tick 0", "tick 1", "reply 0", "reply 8"} {
		if oks[want] == 0 {
			t.Fatal(want, oks)
		}
	}
}

func TestLongRunsAgainstModel(t *testing.T) {
	for seed := range uint64(7) {
		x := newRun(t, 1000+seed, plans()[seed%uint64(len(plans()))])
		x.ids = 1200
		for range 8 {
			for range 200 {
				x.step()
			}
			x.look()
			x.even()
		}
	}
}

func TestGreatBalancesAgainstModel(t *testing.T) {
	oks := map[string]int{}
	for seed := range uint64(84) {
		x := newRun(t, 2000+seed, plans()[seed%uint64(len(plans()))])
		x.oks, x.ids, x.most = oks, 200, api.MaxAmount
		x.near()
		for range 200 {
			x.step()
			x.look()
			x.even()
		}
	}
	for _, want := range []string{"sale 2", "refund 2", "chargeback 2", "reverse 2", "tick 2", "reply 2"} {
		if oks[want] == 0 {
			t.Fatal(want, oks)
		}
	}
}

// near books balances near the greatest amount in both, which others owe.
func (x *run) near() {
	for i, p := range x.parties {
		kind := pick(x.r, book.Available, book.Available, book.Debt, book.Debt, book.Paid, book.Reserve)
		sign := int64(1)
		if kind == book.Debt {
			sign = -1
		}
		x.give(kind, p, sign*x.great(), fmt.Sprint("zed", i))
		if kind == book.Debt && x.r.IntN(2) == 0 {
			x.give(book.Paid, p, x.great(), fmt.Sprint("zod", i))
		}
	}
	if x.r.IntN(2) == 0 {
		x.give(book.Fee, "", x.great(), "zed")
	}
	if x.r.IntN(2) == 0 {
		x.give(book.Clearing, "", -x.great(), "zod")
	}
}

// great is an amount near the greatest one there is.
func (x *run) great() int64 {
	return math.MaxInt64 - x.r.Int64N(pick[int64](x.r, 1, 1000, api.MaxAmount, 20*api.MaxAmount))
}

// give books an amount on an account, and as much less on another one's, who can't be paid.
func (x *run) give(kind, party string, amount int64, other string) {
	l := []book.Line{line(kind, party, "EUR", amount), line(book.Debt, other, "EUR", -amount)}
	if amount < 0 {
		l[1].Kind = book.Paid
	}
	if e := x.s.book.Post(l...); e != api.OK {
		x.t.Fatal(e, l)
	}
	for _, b := range l {
		x.m.add(b.Kind, b.Party, b.Currency, b.Amount)
	}
}

func TestRandomClonesAgainstModel(t *testing.T) {
	for seed := range uint64(70) {
		x := newRun(t, 3000+seed, plans()[seed%uint64(len(plans()))])
		l := []*run{x}
		for range 300 {
			y := pick(x.r, l...)
			y.step()
			if len(l) < 5 && x.r.IntN(30) == 0 {
				z := *y
				z.s, z.m, z.did = y.s.Clone(), y.m.copy(), slices.Clone(y.did)
				l = append(l, &z)
			}
		}
		for _, y := range l {
			y.look()
			y.even()
		}
	}
}
