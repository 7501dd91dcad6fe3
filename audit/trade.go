package audit

import (
	"souk/api"
	"souk/money"
)

// The kinds of commands by which something comes from buyers, or is returned.
const (
	sale       = "sale"
	refund     = "refund"
	chargeback = "chargeback"
	reverse    = "reverse"
)

// trade is what came from buyers in a currency, and was not returned, up to a command.
type trade struct {
	currency    string
	net         int64
	sales       map[string]struct{} // the IDs of those in the currency
	chargebacks map[string]int64    // of each ID the Amount of the last one, of such a sale
}

// do goes on by a command.
func (x *trade) do(c api.Command) (e api.Errno) {
	// What is about a sale has no currency of its own: only its sale tells it.
	_, sold := x.sales[c.About]
	switch c.Kind {
	case sale:
		if c.Currency == x.currency {
			x.sales[c.ID] = struct{}{}
			x.net, e = money.Add(x.net, c.Amount)
		}
	case chargeback:
		if sold {
			x.chargebacks[c.ID] = c.Amount
		}
		fallthrough
	case refund:
		if sold {
			x.net, e = money.Sub(x.net, c.Amount)
		}
	case reverse:
		// Of one that there is none of this adds 0.
		x.net, e = money.Add(x.net, x.chargebacks[c.About])
	}
	return e
}
