package gate

import (
	"fmt"
	"math"
	"math/rand/v2"
	"slices"
	"testing"

	"souk/api"
)

// request is one of a kind and key, by ann, in EUR, of 7.
func request(kind, key string, attempt int64) api.Request {
	return api.Request{Kind: kind, Key: key, Party: "ann", Currency: "EUR", Amount: 7, Attempt: attempt}
}

// record is what such a request leaves behind.
func record(key string, moved bool) Record {
	return Record{Key: key, Party: "ann", Currency: "EUR", Amount: 7, Moved: moved}
}

// kinds are those of requests, and some that are none's.
func kinds() []string {
	return []string{"pay", "query", "", "Pay", "PAY", "pays", "pa", "pay ", " pay", "pay\x00", "querys", "quer", "Query", "payquery", "what", Accepted, Declined, Unknown}
}

// model is a gateway as the chapter tells it: each choice has a row of its own.
type model struct {
	records map[string]Record
	order   []string
	late    []Reply
}

func newModel() *model { return &model{records: map[string]Record{}} }

// rows is what each choice does: whether it moves money, how often it is told at once, whether late.
func rows() [8]struct {
	moves bool
	times int
	late  bool
} {
	return [8]struct {
		moves bool
		times int
		late  bool
	}{
		1: {true, 1, false},
		2: {true, 0, false},
		3: {false, 1, false},
		4: {false, 0, false},
		5: {true, 2, false},
		6: {true, 0, true},
		7: {false, 0, true},
	}
}

func (m *model) ask(r api.Request, choice uint8) []Reply {
	n := int(choice) & 7
	if n == 0 || (r.Kind != "pay" && r.Kind != "query") {
		return nil
	}
	row := rows()[n]
	if _, ok := m.records[r.Key]; !ok && r.Kind == "pay" {
		m.records[r.Key] = Record{r.Key, r.Party, r.Currency, r.Amount, row.moves}
		m.order = append(m.order, r.Key)
	}
	x := Reply{r.Key, "unknown", r.Attempt}
	if rec, ok := m.records[r.Key]; ok {
		x.Kind = map[bool]string{true: "accepted", false: "declined"}[rec.Moved]
	}
	if row.late {
		m.late = append(m.late, x)
	}
	return slices.Repeat([]Reply{x}, row.times)
}

func (m *model) takeLate(n int) (Reply, bool) {
	if n < 0 || n >= len(m.late) {
		return Reply{}, false
	}
	x := m.late[n]
	var others []Reply
	for i, y := range m.late {
		if i != n {
			others = append(others, y)
		}
	}
	m.late = others
	return x, true
}

func (m *model) all() []Record {
	var l []Record
	for _, k := range m.order {
		l = append(l, m.records[k])
	}
	return l
}

// same holds a gate against a model, by all that can be asked of it without changing it.
func same(t *testing.T, g *Gate, m *model, at ...any) {
	t.Helper()
	if l := g.Records(); !slices.Equal(l, m.all()) {
		t.Fatal(fmt.Sprint(at...), "Records:", l, "want", m.all())
	}
	if n := g.Waiting(); n != len(m.late) {
		t.Fatal(fmt.Sprint(at...), "Waiting:", n, "want", len(m.late))
	}
}

// wantLate takes all that waits, the first one each time, and holds it against a list.
func wantLate(t *testing.T, g *Gate, want ...Reply) {
	t.Helper()
	if n := g.Waiting(); n != len(want) {
		t.Errorf("Waiting() = %d, want %d", n, len(want))
	}
	for i, w := range want {
		if x, ok := g.Late(0); !ok || x != w {
			t.Errorf("late %d: %v, %v, want %v", i, x, ok, w)
		}
	}
	if x, ok := g.Late(0); ok || x != (Reply{}) || g.Waiting() != 0 {
		t.Errorf("Late(0) at the end: %v, %v", x, ok)
	}
}

// P16.1: the constants are the chapter's own.
func TestConstants(t *testing.T) {
	if Accepted != "accepted" || Declined != "declined" || Unknown != "unknown" {
		t.Error("kinds:", Accepted, Declined, Unknown)
	}
	got := [8]int{Lost, Accept, AcceptLost, Decline, DeclineLost, AcceptTwice, AcceptLate, DeclineLate}
	if got != [8]int{0, 1, 2, 3, 4, 5, 6, 7} {
		t.Error("choices:", got)
	}
}

// numbers are those that Late may be asked of where nothing waits.
func numbers() []int {
	return []int{0, 1, -1, 2, -2, 8, math.MaxInt, math.MinInt, math.MaxInt - 1, math.MinInt + 1}
}

// P16.1: the zero Gate has no records, and nothing waits.
func TestZeroGate(t *testing.T) {
	for _, g := range []*Gate{{}, new(Gate)} {
		if l := g.Records(); len(l) != 0 {
			t.Error("Records:", l)
		}
		if n := g.Waiting(); n != 0 {
			t.Error("Waiting:", n)
		}
		for _, n := range numbers() {
			if x, ok := g.Late(n); ok || x != (Reply{}) {
				t.Error("Late", n, x, ok)
			}
		}
		if l := g.Ask(request("query", "a", 3), Accept); !slices.Equal(l, []Reply{{"a", Unknown, 3}}) {
			t.Error("query:", l)
		}
		if l := g.Ask(request("pay", "a", 4), Accept); !slices.Equal(l, []Reply{{"a", Accepted, 4}}) {
			t.Error("pay:", l)
		}
	}
	var g Gate // as a value, too
	if l := g.Ask(request("pay", "a", 4), Decline); !slices.Equal(l, []Reply{{"a", Declined, 4}}) || len(g.Records()) != 1 {
		t.Error("pay:", l)
	}
}

// P16.1: of a nil gate nothing, false, 0.
func TestNilGate(t *testing.T) {
	var g *Gate
	for _, kind := range kinds() {
		for choice := range 256 {
			if l := g.Ask(request(kind, "a", 1), uint8(choice)); len(l) != 0 {
				t.Error("Ask", kind, choice, l)
			}
		}
	}
	for _, n := range numbers() {
		if x, ok := g.Late(n); ok || x != (Reply{}) {
			t.Error("Late", n, x, ok)
		}
	}
	if n := g.Waiting(); n != 0 {
		t.Error("Waiting:", n)
	}
	if l := g.Records(); len(l) != 0 {
		t.Error("Records:", l)
	}
}

// P16.1, by each choice: what is moved, told at once, and told late, written out.
func TestChoices(t *testing.T) {
	for _, c := range []struct {
		choice         uint8
		records        []Record
		atOnce, behind int
		kind           string
	}{
		{0, nil, 0, 0, ""},
		{1, []Record{record("k", true)}, 1, 0, "accepted"},
		{2, []Record{record("k", true)}, 0, 0, ""},
		{3, []Record{record("k", false)}, 1, 0, "declined"},
		{4, []Record{record("k", false)}, 0, 0, ""},
		{5, []Record{record("k", true)}, 2, 0, "accepted"},
		{6, []Record{record("k", true)}, 0, 1, "accepted"},
		{7, []Record{record("k", false)}, 0, 1, "declined"},
	} {
		g := &Gate{}
		x := Reply{"k", c.kind, 5}
		if l := g.Ask(request("pay", "k", 5), c.choice); !slices.Equal(l, slices.Repeat([]Reply{x}, c.atOnce)) {
			t.Error(c.choice, "Ask:", l)
		}
		if l := g.Records(); !slices.Equal(l, c.records) {
			t.Error(c.choice, "Records:", l)
		}
		wantLate(t, g, slices.Repeat([]Reply{x}, c.behind)...)
	}
}

// gateOf has a record of "yes", which is moved, and one of "no", which is not; nothing waits.
func gateOf() (*Gate, *model) {
	g, m := &Gate{}, newModel()
	for _, c := range []struct {
		key    string
		choice uint8
	}{{"yes", AcceptLost}, {"no", DeclineLost}} {
		g.Ask(request("pay", c.key, 1), c.choice)
		m.ask(request("pay", c.key, 1), c.choice)
	}
	return g, m
}

// P16.1, P16.2: every kind, by every choice, for a key without a record, one that is moved and one that is not.
func TestEveryChoice(t *testing.T) {
	for _, kind := range kinds() {
		for n := range 256 {
			choice := uint8(n)
			for _, key := range []string{"none", "yes", "no", ""} {
				g, m := gateOf()
				r := api.Request{Kind: kind, Key: key, Party: "bob", Currency: "USD", Amount: 9, Attempt: int64(n) - 100}
				got, want := g.Ask(r, choice), m.ask(r, choice)
				if !slices.Equal(got, want) {
					t.Error(kind, choice, key, "Ask:", got, "want", want)
				}
				same(t, g, m, kind, choice, key)
				wantLate(t, g, m.late...)
			}
		}
	}
}

// P16.1: a kind that is none's leaves nothing, and says nothing, even of a key that has a record.
func TestOtherKinds(t *testing.T) {
	for _, kind := range kinds()[2:] {
		for choice := range 256 {
			g, _ := gateOf()
			for _, key := range []string{"none", "yes", "no", ""} {
				if l := g.Ask(request(kind, key, 1), uint8(choice)); len(l) != 0 {
					t.Error(kind, choice, key, l)
				}
			}
			if l := g.Records(); !slices.Equal(l, []Record{record("yes", true), record("no", false)}) || g.Waiting() != 0 {
				t.Error(kind, choice, l, g.Waiting())
			}
		}
	}
}

// P16.1: a query never makes a record, whatever the choice; what it is told is what the gateway knows.
func TestQuery(t *testing.T) {
	for choice := range 256 {
		g, _ := gateOf()
		for key, kind := range map[string]string{"none": Unknown, "yes": Accepted, "no": Declined, "": Unknown} {
			l := g.Ask(request("query", key, 8), uint8(choice))
			for range g.Waiting() {
				x, _ := g.Late(0)
				l = append(l, x)
			}
			want := slices.Repeat([]Reply{{key, kind, 8}}, [8]int{0, 1, 0, 1, 0, 2, 1, 1}[choice%8])
			if !slices.Equal(l, want) {
				t.Error(choice, key, l, want)
			}
		}
		if l := g.Records(); len(l) != 2 {
			t.Error(choice, l)
		}
	}
}

// P16.1: keys are texts, byte by byte: the empty one is a key as others are.
func TestKeys(t *testing.T) {
	keys := []string{"", "a", "b", "aa", "ab", "A", "a ", " a", "a\x00", "\x00", "\xff", "\xff\xfe", "é", "e\u0301", "p12345678901234567890a", "p12345678901234567890b"}
	g := &Gate{}
	var want []Record
	for i, key := range keys {
		for _, later := range keys[i:] {
			if l := g.Ask(request("query", later, 1), Accept); !slices.Equal(l, []Reply{{later, Unknown, 1}}) {
				t.Errorf("%q ahead of %q: %v", later, key, l)
			}
		}
		choice, moved := uint8(Accept), i%2 == 0
		if !moved {
			choice = Decline
		}
		g.Ask(request("pay", key, 1), choice)
		want = append(want, record(key, moved))
	}
	if l := g.Records(); !slices.Equal(l, want) {
		t.Error(l)
	}
	for i, key := range keys {
		x := Reply{key, Accepted, 2}
		if i%2 != 0 {
			x.Kind = Declined
		}
		if l := g.Ask(request("query", key, 2), Decline); !slices.Equal(l, []Reply{x}) {
			t.Errorf("%q: %v", key, l)
		}
	}
}

// P16.1: of pay a record bears the request's party, currency and amount, whatever they are; its attempt counts for nothing there.
func TestRecordBears(t *testing.T) {
	texts := []string{"", "ann", "EUR", "a name that is longer than most are", "\x00\xff", "yes"}
	amounts := []int64{0, 1, -1, 100, -100, api.MaxAmount, api.MaxAmount + 1, -api.MaxAmount, math.MaxInt64, math.MinInt64, math.MinInt64 + 1}
	g := &Gate{}
	var want []Record
	for _, party := range texts {
		for _, currency := range texts {
			for _, amount := range amounts {
				for choice := uint8(1); choice < 8; choice++ {
					key := fmt.Sprint("k", len(want))
					g.Ask(api.Request{Kind: "pay", Key: key, Party: party, Currency: currency, Amount: amount, Attempt: amount / 2}, choice)
					want = append(want, Record{key, party, currency, amount, slices.Contains([]uint8{1, 2, 5, 6}, choice)})
				}
			}
		}
	}
	if l := g.Records(); !slices.Equal(l, want) {
		t.Error("records differ", len(l), len(want))
	}
}

// P16.2: a later request of the same key changes nothing of its record, and adds none, by whatever it differs.
func TestStays(t *testing.T) {
	for first := uint8(1); first < 8; first++ {
		g := &Gate{}
		g.Ask(request("pay", "k", 1), first)
		want := g.Records()
		for n := range 256 {
			for _, r := range []api.Request{
				request("pay", "k", 1),
				request("pay", "k", 2),
				{Kind: "pay", Key: "k", Party: "bob", Currency: "EUR", Amount: 7, Attempt: 1},
				{Kind: "pay", Key: "k", Party: "ann", Currency: "USD", Amount: 7, Attempt: 1},
				{Kind: "pay", Key: "k", Party: "ann", Currency: "EUR", Amount: 8, Attempt: 1},
				{Kind: "pay", Key: "k", Party: "", Currency: "", Amount: math.MinInt64, Attempt: math.MaxInt64},
				{Kind: "query", Key: "k", Party: "bob", Currency: "USD", Amount: 8, Attempt: 1},
			} {
				for _, x := range g.Ask(r, uint8(n)) {
					if x.Key != "k" || x.Attempt != r.Attempt || (x.Kind == Accepted) != want[0].Moved || x.Kind == Unknown {
						t.Error(first, n, r, x)
					}
				}
				if l := g.Records(); len(l) != 1 || !slices.Equal(l, want) {
					t.Fatal(first, n, r, l)
				}
			}
		}
		for range g.Waiting() {
			if x, ok := g.Late(0); !ok || (x.Kind == Accepted) != want[0].Moved || x.Kind == Unknown {
				t.Error(first, x)
			}
		}
	}
}

// P16.1: what was lost on its way was never asked: the next one decides.
func TestLostDecidesNothing(t *testing.T) {
	for _, choice := range []uint8{0, 8, 16, 248} {
		g := &Gate{}
		if l := g.Ask(request("pay", "k", 1), choice); len(l) != 0 || len(g.Records()) != 0 || g.Waiting() != 0 {
			t.Error(choice, l)
		}
		g.Ask(api.Request{Kind: "pay", Key: "k", Party: "bob", Currency: "USD", Amount: 2, Attempt: 2}, Decline)
		if l := g.Records(); !slices.Equal(l, []Record{{"k", "bob", "USD", 2, false}}) {
			t.Error(choice, l)
		}
	}
}

// P16.1: a reply bears the request's own Attempt, not that of the one that was asked ahead.
func TestAttempt(t *testing.T) {
	g := &Gate{}
	attempts := []int64{5, 0, -1, 1, 2, math.MaxInt64, math.MinInt64, 5}
	var late []Reply
	for _, kind := range []string{"pay", "query"} {
		for _, a := range attempts {
			if l := g.Ask(request(kind, "k", a), Accept); !slices.Equal(l, []Reply{{"k", Accepted, a}}) {
				t.Error(kind, a, l)
			}
			if l := g.Ask(request(kind, "k", a), AcceptTwice); !slices.Equal(l, []Reply{{"k", Accepted, a}, {"k", Accepted, a}}) {
				t.Error(kind, a, l)
			}
			g.Ask(request(kind, "k", a), DeclineLate)
			late = append(late, Reply{"k", Accepted, a})
		}
	}
	wantLate(t, g, late...)
}

// P16.1: what is told late stands behind all that are, as it was when it was asked.
func TestLateAsItWas(t *testing.T) {
	g := &Gate{}
	g.Ask(request("query", "k", 1), AcceptLate)
	g.Ask(request("query", "k", 2), DeclineLate)
	g.Ask(request("pay", "k", 3), AcceptLate)
	g.Ask(request("query", "k", 4), DeclineLate)
	g.Ask(request("pay", "j", 5), DeclineLate)
	g.Ask(request("pay", "j", 6), AcceptLate)
	g.Ask(request("query", "j", 7), AcceptLate)
	g.Ask(request("query", "i", 8), AcceptLate)
	g.Ask(request("pay", "i", 9), Accept)
	wantLate(t, g,
		Reply{"k", Unknown, 1}, Reply{"k", Unknown, 2}, Reply{"k", Accepted, 3}, Reply{"k", Accepted, 4},
		Reply{"j", Declined, 5}, Reply{"j", Declined, 6}, Reply{"j", Declined, 7}, Reply{"i", Unknown, 8})
}

// lateGate has so many that wait; their attempts count from 0.
func lateGate(n int) (*Gate, []Reply) {
	g := &Gate{}
	var l []Reply
	for i := range n {
		g.Ask(request("query", "k", int64(i)), AcceptLate)
		l = append(l, Reply{"k", Unknown, int64(i)})
	}
	return g, l
}

// P16.1: Late of each number, and the order of the others behind it.
func TestLateNumbers(t *testing.T) {
	for n := range 8 {
		for at := -3; at <= n+3; at++ {
			g, l := lateGate(n)
			x, ok := g.Late(at)
			if at < 0 || at >= n {
				if ok || x != (Reply{}) {
					t.Error(n, at, x, ok)
				}
				wantLate(t, g, l...)
				continue
			}
			if !ok || x != l[at] || g.Waiting() != n-1 {
				t.Error(n, at, x, ok, g.Waiting())
			}
			wantLate(t, g, slices.Concat(l[:at], l[at+1:])...)
		}
		for _, at := range []int{math.MinInt, math.MinInt + 1, -1 << 32, 1 << 32, math.MaxInt - 1, math.MaxInt} {
			g, l := lateGate(n)
			if x, ok := g.Late(at); ok || x != (Reply{}) {
				t.Error(n, at, x, ok)
			}
			wantLate(t, g, l...)
		}
	}
}

// P16.1: one that is told is told late no more; what comes then stands behind those that are left.
func TestLateThenMore(t *testing.T) {
	g, l := lateGate(5)
	if x, ok := g.Late(4); !ok || x != l[4] {
		t.Error(x, ok)
	}
	if x, ok := g.Late(4); ok || x != (Reply{}) {
		t.Error(x, ok)
	}
	if x, ok := g.Late(1); !ok || x != l[1] {
		t.Error(x, ok)
	}
	g.Ask(request("pay", "j", 9), DeclineLate)
	if x, ok := g.Late(0); !ok || x != l[0] {
		t.Error(x, ok)
	}
	g.Ask(request("pay", "j", 10), AcceptLate)
	wantLate(t, g, l[2], l[3], Reply{"j", Declined, 9}, Reply{"j", Declined, 10})
	g.Ask(request("query", "j", 11), AcceptLate)
	wantLate(t, g, Reply{"j", Declined, 11})
}

// P16.1: Late and Waiting change no record, and none makes one.
func TestLateLeavesRecords(t *testing.T) {
	g, m := gateOf()
	g.Ask(request("query", "yes", 1), AcceptLate)
	g.Ask(request("query", "none", 1), AcceptLate)
	g.Late(1)
	g.Late(0)
	g.Late(0)
	same(t, g, m)
}

// Rule 3: what was answered stays as it was, whatever is asked later; changing it changes nothing of the gate.
func TestAnswersAreTheirOwn(t *testing.T) {
	g := &Gate{}
	var told [][]Reply
	var toldThen [][]Reply
	var all [][]Record
	var allThen [][]Record
	for i := range 40 {
		r := request("pay", fmt.Sprint("k", i%13), int64(i))
		l := g.Ask(r, uint8(i))
		told, toldThen = append(told, l), append(toldThen, slices.Clone(l))
		rs := g.Records()
		all, allThen = append(all, rs), append(allThen, slices.Clone(rs))
		if i%5 == 4 {
			g.Late(g.Waiting() / 2)
		}
	}
	for i := range told {
		if !slices.Equal(told[i], toldThen[i]) || !slices.Equal(all[i], allThen[i]) {
			t.Error("changed:", i)
		}
	}
	last := slices.Clone(all[len(all)-1])
	for i := range told {
		for j := range told[i] {
			told[i][j] = Reply{"x", "x", -9}
		}
		for j := range all[i] {
			all[i][j] = Record{Key: "x", Moved: !all[i][j].Moved}
		}
		told[i] = append(told[i], Reply{"y", "y", 1})
		_ = append(all[i][:0], Record{Key: "y"}, Record{Key: "z"})
	}
	if l := g.Records(); !slices.Equal(l, last) {
		t.Error(l)
	}
	for _, r := range last {
		kind := Declined
		if r.Moved {
			kind = Accepted
		}
		if l := g.Ask(request("query", r.Key, 3), Accept); !slices.Equal(l, []Reply{{r.Key, kind, 3}}) {
			t.Error(r, l)
		}
	}
}

// Rule 3: the two replies of AcceptTwice, and a late one, share nothing: changing one leaves the others.
func TestTwiceIsTwo(t *testing.T) {
	g := &Gate{}
	g.Ask(request("pay", "k", 1), AcceptLate)
	l := g.Ask(request("query", "k", 2), AcceptTwice)
	l[0] = Reply{"x", "x", 7}
	if l[1] != (Reply{"k", Accepted, 2}) {
		t.Error(l)
	}
	if m := g.Ask(request("query", "k", 2), AcceptTwice); !slices.Equal(m, []Reply{{"k", Accepted, 2}, {"k", Accepted, 2}}) {
		t.Error(m)
	}
	wantLate(t, g, Reply{"k", Accepted, 1})
}

// What a list of records has behind its length is not the gate's.
func TestBehindLength(t *testing.T) {
	g, m := gateOf()
	l := g.Records()
	_ = append(l, Record{Key: "none", Moved: true})
	g.Ask(request("pay", "later", 1), Decline)
	m.ask(request("pay", "later", 1), Decline)
	_ = append(l, Record{Key: "none", Moved: true})
	same(t, g, m)
}

// P2: one gate says nothing of another.
func TestGatesApart(t *testing.T) {
	g, h := &Gate{}, &Gate{}
	g.Ask(request("pay", "k", 1), AcceptLate)
	if len(h.Records()) != 0 || h.Waiting() != 0 {
		t.Error("another's record")
	}
	if l := h.Ask(request("query", "k", 1), Accept); !slices.Equal(l, []Reply{{"k", Unknown, 1}}) {
		t.Error(l)
	}
	h.Ask(request("pay", "k", 1), Decline)
	if l := g.Ask(request("query", "k", 1), Accept); !slices.Equal(l, []Reply{{"k", Accepted, 1}}) {
		t.Error(l)
	}
}

// anyRequest is one of few keys, so that most are asked again.
func anyRequest(r *rand.Rand) api.Request {
	kind := kinds()[r.IntN(2)]
	if r.IntN(10) == 0 {
		kind = kinds()[r.IntN(len(kinds()))]
	}
	return api.Request{
		Kind:     kind,
		Key:      []string{"", "a", "b", "ab", "aa", "k1", "k2", "k3"}[r.IntN(8)],
		Party:    []string{"", "ann", "bob"}[r.IntN(3)],
		Currency: []string{"", "EUR", "USD"}[r.IntN(3)],
		Amount:   r.Int64N(9) - 4,
		Attempt:  r.Int64N(9) - 4,
	}
}

// P16.1, P16.2: long runs, held against the model; no key has two records, and none changes.
func TestRuns(t *testing.T) {
	r := rand.New(rand.NewPCG(16, 1))
	for range 300 {
		g, m := &Gate{}, newModel()
		var before []Record
		for step := range 200 {
			if r.IntN(4) == 0 {
				n := r.IntN(len(m.late)+3) - 1
				x, ok := g.Late(n)
				if y, yes := m.takeLate(n); x != y || ok != yes {
					t.Fatal(step, n, x, ok, y, yes)
				}
			} else {
				q, choice := anyRequest(r), uint8(r.IntN(256))
				if got, want := g.Ask(q, choice), m.ask(q, choice); !slices.Equal(got, want) {
					t.Fatal(step, q, choice, got, want)
				}
			}
			same(t, g, m, step)
			now := g.Records()
			if len(now) < len(before) || !slices.Equal(now[:len(before)], before) {
				t.Fatal("changed:", before, now)
			}
			before = now
		}
		seen := map[string]bool{}
		for _, x := range before {
			if seen[x.Key] {
				t.Fatal("twice:", x)
			}
			seen[x.Key] = true
		}
		wantLate(t, g, m.late...)
	}
}

// P16.2: what is told of a key is the same at all times, but that it may be unknown ahead of its record.
func TestToldStays(t *testing.T) {
	r := rand.New(rand.NewPCG(16, 2))
	g := &Gate{}
	told := map[string]string{}
	for range 20000 {
		q := anyRequest(r)
		q.Key += fmt.Sprint(r.IntN(40))
		for _, x := range g.Ask(q, uint8(r.IntN(256))) {
			if told[x.Key] != "" && told[x.Key] != Unknown && told[x.Key] != x.Kind {
				t.Fatal(x, told[x.Key])
			}
			told[x.Key] = x.Kind
		}
	}
	for _, x := range g.Records() {
		if kind := told[x.Key]; kind != "" && (kind == Accepted) != x.Moved {
			t.Error(x, kind)
		}
	}
}

// P1: many records, and many that wait, come to their end.
func TestMany(t *testing.T) {
	g := &Gate{}
	const many = 3000
	for i := range many {
		g.Ask(request("pay", fmt.Sprint(i), int64(i)), AcceptLate+uint8(i%2))
	}
	l := g.Records()
	if len(l) != many || g.Waiting() != many {
		t.Fatal(len(l), g.Waiting())
	}
	for i, x := range l {
		if x != record(fmt.Sprint(i), i%2 == 0) {
			t.Fatal(i, x)
		}
	}
	for i := many - 1; i >= 0; i-- {
		if x, ok := g.Late(i); !ok || x.Attempt != int64(i) || x.Kind != [2]string{Accepted, Declined}[i%2] {
			t.Fatal(i, x, ok)
		}
	}
}

// The chapter's example.
func TestExample(t *testing.T) {
	g := &Gate{}
	if l := g.Ask(request("pay", "k", 1), AcceptLost); len(l) != 0 {
		t.Error(l)
	}
	if l := g.Ask(request("query", "k", 2), Accept); !slices.Equal(l, []Reply{{"k", Accepted, 2}}) {
		t.Error(l)
	}
}
