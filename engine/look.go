package engine

import (
	"souk/attempt"
	"souk/book"
	"souk/lots"
	"souk/state"
)

// What an engine tells of its state, it would tell by embedding alone; but a nil engine has no
// state to ask, and must tell, too, what a nil state does.

// own is the engine's state.
func (e *Engine) own() *state.State {
	if e == nil {
		return nil
	}
	return e.State
}

// Clone is another state, that is alike.
func (e *Engine) Clone() *state.State { return e.own().Clone() }

// Now is how many ticks were.
func (e *Engine) Now() int64 { return e.own().Now() }

// Balances are all accounts' but those of 0.
func (e *Engine) Balances() []book.Line { return e.own().Balances() }

// Balance is an account's.
func (e *Engine) Balance(kind, party, currency string) int64 {
	return e.own().Balance(kind, party, currency)
}

// Lots are what is held back.
func (e *Engine) Lots() []lots.Lot { return e.own().Lots() }

// Payouts are all, as they began.
func (e *Engine) Payouts() []attempt.Payout { return e.own().Payouts() }

// Held tells whether a party's payouts are held.
func (e *Engine) Held(party string) bool { return e.own().Held(party) }

// Left is what is left of a sale, of its fee, its tax, and its parts; false: there is none.
func (e *Engine) Left(id string) ([]int64, bool) { return e.own().Left(id) }

// Told is what an event was told; false: there was none.
func (e *Engine) Told(id string) (state.Reply, bool) { return e.own().Told(id) }
