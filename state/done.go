package state

import (
	"slices"
	"strconv"

	"souk/api"
	"souk/attempt"
	"souk/book"
	"souk/claw"
	"souk/dial"
	"souk/fee"
	"souk/lots"
	"souk/part"
)

// cannot is why a command can't be done: what the panic tells by which that ends.
type cannot api.Errno

// must ends a command by its error, if there is one.
func must(e api.Errno) {
	if e != api.OK {
		panic(cannot(e))
	}
}

// why is the error by which a command was ended.
func why(x any) api.Errno {
	e, ok := x.(cannot)
	if !ok {
		// The program's own fault, which is none of the command's errors.
		panic(x)
	}
	return api.Errno(e)
}

// orders is what commands do: each one's number that it is told, and what is asked of the gateway.
// Each of them changes the state only behind the last thing that may end it.
func orders() map[string]func(*State, api.Command) (int64, []api.Request) {
	return map[string]func(*State, api.Command) (int64, []api.Request){
		"sale":       (*State).sale,
		"refund":     (*State).refund,
		"chargeback": (*State).chargeback,
		"reverse":    (*State).reverse,
		"hold":       (*State).hold,
		"free":       (*State).free,
		"tick":       (*State).tick,
		"reply":      (*State).reply,
	}
}

// sale shares out what a buyer pays.
func (s *State) sale(c api.Command) (int64, []api.Request) {
	costs, e := fee.Of(s.rules, c.Category, c.Amount)
	must(e)
	parts, e := part.Of(c.Amount, costs, c.Shares...)
	must(e)
	x := sale{currency: c.Currency, left: []int64{costs.Fee, costs.Tax}}
	booked := cleared(c.Currency, c.Amount, costs.Fee, costs.Tax)
	for _, p := range parts {
		x.parties = append(x.parties, p.Party)
		x.left = append(x.left, p.Net)
		booked = append(booked, line(book.Reserve, p.Party, c.Currency, p.Held))
		booked = append(booked, s.credited(p.Party, c.Currency, p.Net-p.Held)...)
	}
	must(s.book.Post(booked...))
	s.sales[c.ID] = x
	for _, p := range parts {
		// Neither a right command's names nor a part's amount, or a tick, are what a lot may not have.
		_ = s.lots.Add(lots.Lot{Party: p.Party, Currency: c.Currency, Amount: p.Held, Due: s.now + costs.Ticks})
	}
	return costs.Fee + costs.Tax, nil
}

// refund gives an amount of a sale back to its buyer.
func (s *State) refund(c api.Command) (int64, []api.Request) {
	taken := s.take(c)
	return c.Amount - taken[0] - taken[1], nil
}

// chargeback is a refund that may be reversed.
func (s *State) chargeback(c api.Command) (int64, []api.Request) {
	taken := s.take(c)
	s.chargebacks[c.ID] = chargeback{sale: c.About, amount: c.Amount, taken: taken}
	return c.Amount - taken[0] - taken[1], nil
}

// take takes a command's amount of the sale that it is about: what of the fee, the tax, and each party's part.
func (s *State) take(c api.Command) []int64 {
	x, ok := s.sales[c.About]
	if !ok {
		panic(cannot(api.ErrNone))
	}
	of := claw.Sale{Left: slices.Clone(x.left)}
	taken, e := of.Refund(c.Amount)
	must(e)
	booked := cleared(x.currency, -c.Amount, -taken[0], -taken[1])
	for i, party := range x.parties {
		booked = append(booked, s.debited(party, x.currency, taken[2+i])...)
	}
	must(s.book.Post(booked...))
	x.left = of.Left
	s.sales[c.About] = x
	return taken
}

// reverse gives back what a chargeback took.
func (s *State) reverse(c api.Command) (int64, []api.Request) {
	back, ok := s.chargebacks[c.About]
	switch {
	case !ok:
		panic(cannot(api.ErrNone))
	case back.reversed:
		panic(cannot(api.ErrState))
	}
	x := s.sales[back.sale]
	of := claw.Sale{Left: slices.Clone(x.left)}
	must(of.Undo(back.taken...))
	booked := cleared(x.currency, back.amount, back.taken[0], back.taken[1])
	for i, party := range x.parties {
		booked = append(booked, s.credited(party, x.currency, back.taken[2+i])...)
	}
	must(s.book.Post(booked...))
	x.left = of.Left
	s.sales[back.sale] = x
	back.reversed = true
	s.chargebacks[c.About] = back
	return back.amount, nil
}

// hold holds a party's payouts.
func (s *State) hold(c api.Command) (int64, []api.Request) {
	s.held[c.About] = struct{}{}
	return int64(len(s.held)), nil
}

// free holds them no more.
func (s *State) free(c api.Command) (int64, []api.Request) {
	delete(s.held, c.About)
	return int64(len(s.held)), nil
}

// tick goes on by a tick.
func (s *State) tick(api.Command) (int64, []api.Request) {
	if s.now == MostTime {
		panic(cannot(api.ErrOver))
	}
	// Lots are booked one by one, since what one of them does hangs on those ahead; if one can't be,
	// nothing of it must be seen: so it is done with a book and lots beside the state's own.
	next := *s
	next.now++
	next.book, next.lots = s.book.Clone(), s.lots.Clone()
	next.release()
	if dial.IsCut(next.now) {
		next.begin()
	}
	*s = next
	requests := s.step()
	return int64(len(requests)), requests
}

// release credits parties what is held back no longer.
func (s *State) release() {
	for _, l := range s.lots.Due(s.now) {
		booked := s.credited(l.Party, l.Currency, l.Amount)
		booked = append(booked, line(book.Reserve, l.Party, l.Currency, -l.Amount))
		must(s.book.Post(booked...))
	}
}

// begin begins payouts of what is available.
func (s *State) begin() {
	// The balances of one kind stand in the order in which payouts begin.
	for _, b := range s.book.All() {
		if b.Kind == book.Available && b.Amount >= api.Threshold && s.mayBegin(b.Party, b.Currency) {
			s.payOut(b.Party, b.Currency, b.Amount)
		}
	}
}

// mayBegin tells whether nothing keeps a payout to a party from beginning.
func (s *State) mayBegin(party, currency string) bool {
	// What is in flight is the amount of the payout that isn't over, which is never 0.
	return !s.Held(party) && s.Balance(book.Flight, party, currency) == 0
}

// payOut begins a payout.
func (s *State) payOut(party, currency string, amount int64) {
	must(s.book.Post(
		line(book.Available, party, currency, -amount),
		line(book.Flight, party, currency, amount),
	))
	s.payouts = append(s.payouts, attempt.Payout{
		Key:      strconv.FormatInt(dial.Period(s.now), 10) + "/" + currency + "/" + party,
		Party:    party,
		Currency: currency,
		Amount:   amount,
		State:    attempt.Ready,
		Next:     s.now,
	})
}

// step brings payouts on; what is asked of the gateway.
func (s *State) step() []api.Request {
	var requests []api.Request
	for i, p := range s.payouts {
		behind, request, asks := p.Step(s.now)
		if asks {
			requests = append(requests, request)
		}
		s.payouts[i] = behind
	}
	return requests
}

// reply tells a payout what the gateway tells of it.
func (s *State) reply(c api.Command) (int64, []api.Request) {
	at := slices.IndexFunc(s.payouts, func(p attempt.Payout) bool { return p.Key == c.About })
	if at < 0 {
		panic(cannot(api.ErrNone))
	}
	p, changed := s.payouts[at].Hear(c.Category, c.Amount, s.now)
	if !changed {
		return 0, nil
	}
	if p.Over() {
		must(s.book.Post(s.landed(p)...))
	}
	s.payouts[at] = p
	return 1, nil
}

// landed is what is booked of a payout that is over.
func (s *State) landed(p attempt.Payout) []book.Line {
	booked := []book.Line{line(book.Flight, p.Party, p.Currency, -p.Amount)}
	if p.State == attempt.Paid {
		return append(booked, line(book.Paid, p.Party, p.Currency, p.Amount))
	}
	return append(booked, s.credited(p.Party, p.Currency, p.Amount)...)
}

// cleared is what is booked of an amount that comes from a buyer, but the parties' parts.
func cleared(currency string, amount, fee, tax int64) []book.Line {
	return []book.Line{
		line(book.Clearing, "", currency, -amount),
		line(book.Fee, "", currency, fee),
		line(book.Tax, "", currency, tax),
	}
}

// credited is what is booked, if a party is credited an amount.
func (s *State) credited(party, currency string, amount int64) []book.Line {
	// The greater of two numbers below 0, since the least debt's own has no number above 0.
	debt := -max(s.Balance(book.Debt, party, currency), -amount)
	return []book.Line{
		line(book.Debt, party, currency, debt),
		line(book.Available, party, currency, amount-debt),
	}
}

// debited is what is booked, if a party is debited an amount.
func (s *State) debited(party, currency string, amount int64) []book.Line {
	available := min(s.Balance(book.Available, party, currency), amount)
	return []book.Line{
		line(book.Available, party, currency, -available),
		line(book.Debt, party, currency, available-amount),
	}
}

func line(kind, party, currency string, amount int64) book.Line {
	return book.Line{Key: book.Key{Kind: kind, Party: party, Currency: currency}, Amount: amount}
}
