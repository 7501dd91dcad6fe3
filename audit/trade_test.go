package audit

import (
	"slices"
	"testing"

	"souk/api"
	"souk/command"
)

// P22.1: Net.

// asked is commands by their texts.
func asked(t *testing.T, texts ...string) []api.Command {
	t.Helper()
	var l []api.Command
	for _, text := range texts {
		c, e := command.Parse(text)
		if e != api.OK {
			t.Fatalf("%q: %d", text, e)
		}
		l = append(l, c)
	}
	return l
}

func TestNetOfNothing(t *testing.T) {
	for _, currency := range currencies {
		checkNet(t, nil, currency, 0, api.OK)
		checkNet(t, []api.Command{}, currency, 0, api.OK)
	}
}

func TestNet(t *testing.T) {
	for _, x := range []struct {
		name     string
		texts    []string
		eur, usd int64
	}{
		{"a sale", []string{"sale s EUR - 1000 ann:1"}, 1000, 0},
		{"its category and shares don't matter", []string{"sale s EUR books 1000 ann:1 bob:7"}, 1000, 0},
		{"sales", []string{"sale s EUR - 1000 ann:1", "sale u USD - 20 ann:1", "sale v EUR - 3 bob:1"}, 1003, 20},
		{"sales of one ID", []string{"sale s EUR - 1000 ann:1", "sale s EUR - 1000 ann:1", "sale s EUR - 7 ann:1"}, 2007, 0},
		{"sales of one ID in two currencies", []string{"sale s EUR - 1000 ann:1", "sale s USD - 20 ann:1", "refund r s 3"}, 997, 17},
		{"of these the refund is between", []string{"sale s EUR - 1000 ann:1", "refund r s 3", "sale s USD - 20 ann:1"}, 997, 20},
		{"a refund", []string{"sale s EUR - 1000 ann:1", "refund r s 1"}, 999, 0},
		{"a refund of all", []string{"sale s EUR - 1000 ann:1", "refund r s 1000"}, 0, 0},
		{"a refund of more", []string{"sale s EUR - 1000 ann:1", "refund r s 1001"}, -1, 0},
		{"a refund again", []string{"sale s EUR - 1000 ann:1", "refund r s 300", "refund r s 300", "refund q s 1"}, 399, 0},
		{"a refund ahead of its sale", []string{"refund r s 300", "sale s EUR - 1000 ann:1"}, 1000, 0},
		{"a refund of no sale", []string{"sale s EUR - 1000 ann:1", "refund r q 300"}, 1000, 0},
		{"a refund of a sale in another currency", []string{"sale s EUR - 1000 ann:1", "sale u USD - 20 ann:1", "refund r u 5"}, 1000, 15},
		{"a refund of a refund", []string{"sale s EUR - 1000 ann:1", "refund r s 300", "refund q r 50"}, 700, 0},
		{"a refund of a chargeback", []string{"sale s EUR - 1000 ann:1", "chargeback c s 300", "refund q c 50"}, 700, 0},
		{"a refund of who is held", []string{"sale s EUR - 1000 ann:1", "hold h ann", "refund q h 50", "refund q ann 50", "free f ann", "refund q f 50"}, 1000, 0},
		{"a chargeback", []string{"sale s EUR - 1000 ann:1", "chargeback c s 1"}, 999, 0},
		{"a chargeback of all, and of more", []string{"sale s EUR - 1000 ann:1", "chargeback c s 1000", "chargeback d s 1"}, -1, 0},
		{"a chargeback ahead of its sale", []string{"chargeback c s 300", "sale s EUR - 1000 ann:1", "reverse v c"}, 1000, 0},
		{"a chargeback of no sale", []string{"sale s EUR - 1000 ann:1", "chargeback c q 300", "reverse v c"}, 1000, 0},
		{"a chargeback in another currency", []string{"sale s EUR - 1000 ann:1", "sale u USD - 20 ann:1", "chargeback c u 5"}, 1000, 15},
		{"a chargeback of a refund, and of a chargeback", []string{"sale s EUR - 1000 ann:1", "refund r s 300", "chargeback c r 50", "chargeback d c 60"}, 700, 0},
		{"a reverse", []string{"sale s EUR - 1000 ann:1", "chargeback c s 300", "reverse v c"}, 1000, 0},
		{"a reverse in another currency", []string{"sale s EUR - 1000 ann:1", "sale u USD - 20 ann:1", "chargeback c u 5", "reverse v c"}, 1000, 20},
		{"a reverse twice", []string{"sale s EUR - 1000 ann:1", "chargeback c s 300", "reverse v c", "reverse w c", "reverse v c"}, 1600, 0},
		{"a reverse ahead of its chargeback", []string{"sale s EUR - 1000 ann:1", "reverse v c", "chargeback c s 300"}, 700, 0},
		{"a reverse of no chargeback", []string{"sale s EUR - 1000 ann:1", "chargeback c s 300", "reverse v d"}, 700, 0},
		{"a reverse of a refund", []string{"sale s EUR - 1000 ann:1", "refund r s 300", "reverse v r"}, 700, 0},
		{"a reverse of a sale", []string{"sale s EUR - 1000 ann:1", "chargeback c s 300", "reverse v s"}, 700, 0},
		{"a reverse of a reverse", []string{"sale s EUR - 1000 ann:1", "chargeback c s 300", "reverse v c", "reverse w v"}, 1000, 0},
		{"a refund, and a chargeback, of one ID", []string{"sale s EUR - 1000 ann:1", "chargeback c s 300", "refund c s 20", "reverse v c"}, 980, 0},
		{"chargebacks of one ID: the last one", []string{"sale s EUR - 1000 ann:1", "chargeback c s 300", "chargeback c s 20", "reverse v c"}, 700, 0},
		{"chargebacks of one ID, each reversed", []string{"sale s EUR - 1000 ann:1", "chargeback c s 300", "reverse v c", "chargeback c s 20", "reverse w c"}, 1000, 0},
		{"one of these behind", []string{"sale s EUR - 1000 ann:1", "chargeback c s 300", "reverse v c", "chargeback c s 20"}, 980, 0},
		{"one of these of another sale", []string{"sale s EUR - 1000 ann:1", "sale u EUR - 20 ann:1", "chargeback c s 300", "chargeback c u 4", "reverse v c"}, 720, 0},
		{"one of these of no sale", []string{"sale s EUR - 1000 ann:1", "chargeback c s 300", "chargeback c q 4", "reverse v c"}, 1000, 0},
		{"one of these in another currency", []string{"sale s EUR - 1000 ann:1", "sale u USD - 20 ann:1", "chargeback c s 300", "chargeback c u 4", "reverse v c"}, 1000, 20},
		{"one of these of a sale behind", []string{"sale s EUR - 1000 ann:1", "chargeback c s 300", "chargeback c u 4", "sale u EUR - 20 ann:1", "reverse v c"}, 1020, 0},
		{"a sale, and a chargeback, of one ID", []string{"sale s EUR - 1000 ann:1", "chargeback s s 300", "refund r s 20", "reverse v s"}, 980, 0},
		{"nothing is taken of others", []string{"tick", "hold h ann", "free f ann", "reply 1/EUR/ann accepted 5", "reply s accepted 5"}, 0, 0},
		{"nor beside a sale", []string{"sale s EUR - 1000 ann:1", "tick", "hold h s", "free f s", "reply s accepted 5", "reply s declined 5"}, 1000, 0},
	} {
		t.Run(x.name, func(t *testing.T) {
			l := asked(t, x.texts...)
			checkNet(t, l, "EUR", x.eur, api.OK)
			checkNet(t, l, "USD", x.usd, api.OK)
			checkNet(t, l, "GBP", 0, api.OK)
			checkNet(t, l, "", 0, api.OK)
		})
	}
}

// Commands of Kinds that are none do nothing, whatever else they have.
func TestNetOfNoKinds(t *testing.T) {
	for _, kind := range []string{"", " ", "Sale", "sales", "sal", "sale ", "Refund", "refunds", "charge", "chargebacks", "back", "reversed", "pay", "payout", "tick", "reply", "hold", "free", "\xff"} {
		l := []api.Command{
			{Kind: kind, ID: "s", Currency: "EUR", Amount: greatest},
			{Kind: "refund", ID: "r", About: "s", Amount: 5},
			{Kind: "sale", ID: "s", Currency: "EUR", Amount: 1000},
			{Kind: kind, ID: "c", About: "s", Currency: "EUR", Amount: least},
			{Kind: "reverse", ID: "v", About: "c"},
			{Kind: "chargeback", ID: "c", About: "s", Amount: 300},
			{Kind: kind, ID: "c", About: "s", Currency: "EUR", Amount: 7},
			{Kind: kind, ID: "v", About: "c", Currency: "EUR", Amount: greatest},
		}
		checkNet(t, l, "EUR", 700, api.OK)
		checkNet(t, append(l, api.Command{Kind: "reverse", About: "c"}), "EUR", 1000, api.OK)
	}
}

// A currency is the very same text; what is about a sale has that of the sale, whatever it tells itself.
func TestNetOfCurrencies(t *testing.T) {
	var l []api.Command
	for i, currency := range currencies {
		id := string(rune('a' + i))
		l = append(l, api.Command{Kind: "sale", ID: id, Currency: currency, Amount: int64(100 * (i + 1))})
	}
	for i := range currencies {
		id := string(rune('a' + i))
		l = append(l,
			api.Command{Kind: "refund", ID: "r" + id, About: id, Currency: "GBP", Amount: int64(i + 1)},
			api.Command{Kind: "chargeback", ID: "c" + id, About: id, Currency: "GBP", Amount: 50},
			api.Command{Kind: "reverse", ID: "v" + id, About: "c" + id, Currency: "GBP", Amount: 3},
		)
	}
	for i, currency := range currencies {
		checkNet(t, l, currency, int64(99*(i+1)), api.OK)
	}
	checkNet(t, l, "GBP", 0, api.OK)
}

// An ID is any text, an empty one, too.
func TestNetOfIDs(t *testing.T) {
	ids := []string{"", "s", "S", "s ", " s", "s\x00", "\xff", "sale"}
	for _, id := range ids {
		l := []api.Command{{Kind: "sale", ID: id, Currency: "EUR", Amount: 1000}}
		for i, other := range ids {
			l = append(l, api.Command{Kind: "refund", ID: "r", About: other, Amount: 1 << i})
		}
		checkNet(t, l, "EUR", 1000-1<<slices.Index(ids, id), api.OK)
		l = []api.Command{l[0], {Kind: "chargeback", ID: id, About: id, Amount: 500}}
		for range 2 {
			for _, other := range ids {
				l = append(l, api.Command{Kind: "reverse", ID: "v", About: other, Amount: 5})
			}
		}
		checkNet(t, l, "EUR", 1500, api.OK)
	}
}

// what is a command of which the amount matters.
func what(kind, id, about string, n int64) api.Command {
	return api.Command{Kind: kind, ID: id, About: about, Currency: "EUR", Amount: n}
}

// A sum up to a command is none, by each Kind that changes it, though those behind would bring it back.
func TestNetOver(t *testing.T) {
	sales := func(l ...int64) []api.Command {
		var all []api.Command
		for _, n := range l {
			all = append(all, what("sale", "s", "", n))
		}
		return all
	}
	for _, row := range overAdded {
		checkNet(t, sales(row...), "EUR", 0, api.ErrOver)
		checkNet(t, sales(row...), "USD", 0, api.OK)
	}
	zero := what("sale", "s", "", 0)
	for _, row := range overSubtracted {
		for _, kind := range []string{"refund", "chargeback"} {
			l := []api.Command{zero}
			for _, n := range row {
				l = append(l, what(kind, "c", "s", n))
			}
			checkNet(t, l, "EUR", 0, api.ErrOver)
			checkNet(t, l[1:], "EUR", 0, api.OK)
		}
	}
	for _, x := range []struct {
		l    []api.Command
		want int64
		e    api.Errno
	}{
		{[]api.Command{zero, what("chargeback", "c", "s", -1), what("sale", "t", "", greatest-1), what("refund", "r", "s", 1), what("reverse", "v", "c", 0)}, greatest - 2, api.OK},
		{[]api.Command{zero, what("chargeback", "c", "s", 5), what("sale", "t", "", greatest), what("reverse", "v", "c", 0)}, greatest, api.OK},
		{[]api.Command{zero, what("chargeback", "c", "s", 5), what("sale", "t", "", greatest), what("reverse", "v", "c", 0), what("reverse", "v", "c", 0)}, 0, api.ErrOver},
		{[]api.Command{zero, what("chargeback", "c", "s", 5), what("sale", "t", "", greatest), what("reverse", "v", "c", 0), what("reverse", "v", "c", 0), what("refund", "r", "s", 5)}, 0, api.ErrOver},
		{[]api.Command{zero, what("chargeback", "c", "s", greatest), what("reverse", "v", "c", 0), what("reverse", "v", "c", 0)}, greatest, api.OK},
		{[]api.Command{zero, what("chargeback", "c", "s", greatest), what("reverse", "v", "c", 0), what("reverse", "v", "c", 0), what("sale", "t", "", 1), what("sale", "t", "", -1)}, 0, api.ErrOver},
		{[]api.Command{what("sale", "s", "", -1), what("chargeback", "c", "s", least), what("reverse", "v", "c", 0)}, -1, api.OK},
		{[]api.Command{what("sale", "s", "", -1), what("chargeback", "c", "s", least), what("reverse", "v", "c", 0), what("reverse", "v", "c", 0)}, 0, api.ErrOver},
		{[]api.Command{what("sale", "s", "", least), what("refund", "r", "s", least), what("refund", "r", "s", greatest)}, -greatest, api.OK},
		{[]api.Command{what("sale", "s", "", least), what("refund", "r", "s", 1), what("sale", "s", "", 1)}, 0, api.ErrOver},
		// What isn't counted doesn't run over.
		{[]api.Command{what("refund", "r", "s", least), what("chargeback", "c", "s", least), what("reverse", "v", "c", least), zero}, 0, api.OK},
		{[]api.Command{what("sale", "s", "", greatest), what("refund", "r", "t", least), what("reverse", "v", "s", greatest), what("tick", "s", "s", greatest)}, greatest, api.OK},
	} {
		checkNet(t, x.l, "EUR", x.want, x.e)
	}
}

// Each list of up to four commands of those in which the same names stand, in each order.
func TestNetOfEachList(t *testing.T) {
	some := []api.Command{
		what("sale", "s", "", 1000),
		what("sale", "c", "s", 20000),
		{Kind: "sale", ID: "s", Currency: "USD", Amount: 300000},
		{Kind: "sale", ID: "u", Currency: "USD", Amount: 4000000},
		what("refund", "c", "s", 1),
		what("refund", "r", "u", 2),
		what("chargeback", "c", "s", 4),
		what("chargeback", "c", "u", 8),
		what("chargeback", "s", "s", 16),
		what("chargeback", "c", "c", 32),
		what("reverse", "v", "c", 64),
		what("reverse", "s", "s", 128),
		what("hold", "s", "s", 256),
	}
	lists := [][]api.Command{nil}
	for at := 0; at < len(lists); at++ {
		l := lists[at]
		for _, currency := range []string{"EUR", "USD"} {
			want, e := netOf(l, currency)
			if got, f := Net(l, currency); got != want || f != e {
				t.Fatalf("Net(%v, %s): %d %d, not %d %d", l, currency, got, f, want, e)
			}
		}
		for _, c := range some {
			if len(l) < 4 {
				lists = append(lists, append(slices.Clone(l), c))
			}
		}
	}
}

// Any commands, against the model.
func TestNetOfAny(t *testing.T) {
	errors := map[api.Errno]int{}
	for seed := range uint64(20000) {
		r := random(seed)
		l := make([]api.Command, r.IntN(20))
		for i := range l {
			l[i] = api.Command{
				Kind:     anyOf(r, "sale", "sale", "sale", "refund", "chargeback", "chargeback", "reverse", "reverse", "tick", "net", ""),
				ID:       anyOf(r, "a", "b", "c", ""),
				About:    anyOf(r, "a", "b", "c", ""),
				Currency: anyOf(r, "EUR", "EUR", "USD", ""),
				Category: anyOf(r, "", "books"),
				Amount:   anyOf(r, anyAmount(r), r.Int64N(2001)-1000),
				Shares:   anyOf(r, nil, []api.Share{{Party: "ann", Weight: 1}}),
			}
		}
		currency := anyOf(r, "EUR", "EUR", "USD", "", "GBP")
		want, e := netOf(l, currency)
		checkNet(t, l, currency, want, e)
		errors[e]++
	}
	if errors[api.OK] < 5000 || errors[api.ErrOver] < 1000 {
		t.Fatal(errors)
	}
}
