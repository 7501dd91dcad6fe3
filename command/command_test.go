package command

import (
	"encoding/binary"
	"fmt"
	"math"
	"math/big"
	"math/rand/v2"
	"reflect"
	"regexp"
	"slices"
	"strings"
	"testing"

	"souk/api"
	"souk/part"
)

// The calls, as the chapter lists them.
var (
	_ func(api.Command) api.Errno           = Right
	_ func(api.Command) (string, api.Errno) = Encode
	_ func(string) (api.Command, api.Errno) = Decode
	_ func(api.Command) (string, api.Errno) = Print
	_ func(string) (api.Command, api.Errno) = Parse
)

// said is a command, its text, and its bytes, written out.
type said struct {
	c     api.Command
	text  string
	bytes string
}

// all is one command of each kind at least, with what the chapter says of it.
func all() []said {
	return []said{
		{api.Command{Kind: "sale", ID: "s1", Currency: "EUR", Amount: 1000, Shares: []api.Share{{Party: "ann", Weight: 3}, {Party: "bob", Weight: 1}}},
			"sale s1 EUR - 1000 ann:3 bob:1",
			"\x04\x00sale\x02\x00s1\x00\x00\x03\x00EUR\x00\x00" + "\xe8\x03\x00\x00\x00\x00\x00\x00" + "\x02\x00\x00\x00\x00\x00\x00\x00" +
				"\x03\x00ann\x03\x00\x00\x00\x00\x00\x00\x00" + "\x03\x00bob\x01\x00\x00\x00\x00\x00\x00\x00"},
		{api.Command{Kind: "sale", ID: "s-1", Currency: "USD", Category: "books", Amount: 1, Shares: []api.Share{{Party: "a/b", Weight: 1 << 50}}},
			"sale s-1 USD books 1 a/b:1125899906842624",
			"\x04\x00sale\x03\x00s-1\x00\x00\x03\x00USD\x05\x00books" + "\x01\x00\x00\x00\x00\x00\x00\x00" + "\x01\x00\x00\x00\x00\x00\x00\x00" +
				"\x03\x00a/b\x00\x00\x00\x00\x00\x00\x04\x00"},
		{api.Command{Kind: "sale", ID: "-s", Currency: "ZAZ", Category: "-x", Amount: 258, Shares: []api.Share{{Party: "-a", Weight: 10}}},
			"sale -s ZAZ -x 258 -a:10",
			"\x04\x00sale\x02\x00-s\x00\x00\x03\x00ZAZ\x02\x00-x" + "\x02\x01\x00\x00\x00\x00\x00\x00" + "\x01\x00\x00\x00\x00\x00\x00\x00" +
				"\x02\x00-a\x0a\x00\x00\x00\x00\x00\x00\x00"},
		{api.Command{Kind: "refund", ID: "r1", About: "s1", Amount: 50},
			"refund r1 s1 50",
			"\x06\x00refund\x02\x00r1\x02\x00s1\x00\x00\x00\x00" + "\x32\x00\x00\x00\x00\x00\x00\x00" + "\x00\x00\x00\x00\x00\x00\x00\x00"},
		{api.Command{Kind: "chargeback", ID: "c1", About: "s1", Amount: 1 << 50},
			"chargeback c1 s1 1125899906842624",
			"\x0a\x00chargeback\x02\x00c1\x02\x00s1\x00\x00\x00\x00" + "\x00\x00\x00\x00\x00\x00\x04\x00" + "\x00\x00\x00\x00\x00\x00\x00\x00"},
		{api.Command{Kind: "reverse", ID: "v1", About: "c1"},
			"reverse v1 c1",
			"\x07\x00reverse\x02\x00v1\x02\x00c1\x00\x00\x00\x00" + "\x00\x00\x00\x00\x00\x00\x00\x00" + "\x00\x00\x00\x00\x00\x00\x00\x00"},
		{api.Command{Kind: "hold", ID: "h1", About: "ann"},
			"hold h1 ann",
			"\x04\x00hold\x02\x00h1\x03\x00ann\x00\x00\x00\x00" + "\x00\x00\x00\x00\x00\x00\x00\x00" + "\x00\x00\x00\x00\x00\x00\x00\x00"},
		{api.Command{Kind: "free", ID: "f1", About: "ann"},
			"free f1 ann",
			"\x04\x00free\x02\x00f1\x03\x00ann\x00\x00\x00\x00" + "\x00\x00\x00\x00\x00\x00\x00\x00" + "\x00\x00\x00\x00\x00\x00\x00\x00"},
		{api.Command{Kind: "tick"},
			"tick",
			"\x04\x00tick\x00\x00\x00\x00\x00\x00\x00\x00" + "\x00\x00\x00\x00\x00\x00\x00\x00" + "\x00\x00\x00\x00\x00\x00\x00\x00"},
		{api.Command{Kind: "reply", About: "12/EUR/ann", Category: "accepted", Amount: 3},
			"reply 12/EUR/ann accepted 3",
			"\x05\x00reply\x00\x00\x0a\x0012/EUR/ann\x00\x00\x08\x00accepted" + "\x03\x00\x00\x00\x00\x00\x00\x00" + "\x00\x00\x00\x00\x00\x00\x00\x00"},
		{api.Command{Kind: "reply", About: strings.Repeat("k", 60), Category: "x"},
			"reply kkkkkkkkkkkkkkkkkkkkkkkkkkkkkkkkkkkkkkkkkkkkkkkkkkkkkkkkkkkk x 0",
			"\x05\x00reply\x00\x00\x3c\x00kkkkkkkkkkkkkkkkkkkkkkkkkkkkkkkkkkkkkkkkkkkkkkkkkkkkkkkkkkkk\x00\x00\x01\x00x" + "\x00\x00\x00\x00\x00\x00\x00\x00" + "\x00\x00\x00\x00\x00\x00\x00\x00"},
	}
}

// kinds are all that are, and some that are none.
func kinds() []string {
	return []string{"sale", "refund", "chargeback", "reverse", "hold", "free", "tick", "reply",
		"", "Sale", "SALE", "TICK", "sales", "sal", " sale", "sale ", "tick\x00", "tock", "-", "refund ", "reply\xff", "what"}
}

// patterns are those that were made, by their texts.
var patterns = map[string]*regexp.Regexp{}

// matches tells whether all of a text is a pattern's.
func matches(pattern, s string) bool {
	if patterns[pattern] == nil {
		patterns[pattern] = regexp.MustCompile(`\A(?:` + pattern + `)\z`)
	}
	return patterns[pattern].MatchString(s)
}

// nameOf is a model of what a name is.
func nameOf(s string, most int) bool {
	return matches(`[a-zA-Z0-9_./-]+`, s) && len(s) <= most && s != "-"
}

// mayBe is a model of Right, by the rows of the chapter's table.
func mayBe(c api.Command) api.Errno {
	row, known := map[string]string{
		"sale":       "ID Currency Category? Amount Shares",
		"refund":     "ID About Amount",
		"chargeback": "ID About Amount",
		"reverse":    "ID About",
		"hold":       "ID About",
		"free":       "ID About",
		"tick":       "",
		"reply":      "Key Category Amount?",
	}[c.Kind]
	has := strings.Fields(row)
	is := func(what string, right, empty bool) bool {
		if slices.Contains(has, what) {
			return right
		}
		if slices.Contains(has, what+"?") {
			return right || empty
		}
		return empty
	}
	about := is("About", nameOf(c.About, 20), c.About == "")
	if slices.Contains(has, "Key") {
		about = nameOf(c.About, 60)
	}
	parties := true
	for _, s := range c.Shares {
		parties = parties && nameOf(s.Party, 20)
	}
	if !known || !about || !is("ID", nameOf(c.ID, 20), c.ID == "") ||
		!is("Currency", matches(`[A-Z]{3}`, c.Currency), c.Currency == "") ||
		!is("Category", nameOf(c.Category, 20), c.Category == "") ||
		!is("Amount", c.Amount >= 1 && c.Amount <= 1<<50, c.Amount == 0) ||
		!is("Shares", parties, len(c.Shares) == 0) {
		return api.ErrArg
	}
	if c.Kind == "sale" {
		return part.Right(c.Shares...)
	}
	return api.OK
}

// bytesOf is a model of a command's bytes.
func bytesOf(c api.Command) string {
	var b []byte
	text := func(s string) {
		b = binary.LittleEndian.AppendUint16(b, uint16(len(s)))
		b = append(b, s...)
	}
	number := func(n int64) { b = binary.LittleEndian.AppendUint64(b, uint64(n)) }
	for _, s := range []string{c.Kind, c.ID, c.About, c.Currency, c.Category} {
		text(s)
	}
	number(c.Amount)
	number(int64(len(c.Shares)))
	for _, s := range c.Shares {
		text(s.Party)
		number(s.Weight)
	}
	return string(b)
}

// textOf is a model of a command's text.
func textOf(c api.Command) string {
	switch c.Kind {
	case "sale":
		category := c.Category
		if category == "" {
			category = "-"
		}
		s := fmt.Sprintf("sale %s %s %s %d", c.ID, c.Currency, category, c.Amount)
		for _, x := range c.Shares {
			s += fmt.Sprintf(" %s:%d", x.Party, x.Weight)
		}
		return s
	case "refund", "chargeback":
		return fmt.Sprintf("%s %s %s %d", c.Kind, c.ID, c.About, c.Amount)
	case "reverse", "hold", "free":
		return c.Kind + " " + c.ID + " " + c.About
	case "tick":
		return "tick"
	}
	return fmt.Sprintf("reply %s %s %d", c.About, c.Category, c.Amount)
}

// isText is a model of which texts are a command's.
func isText(s string) bool {
	const name, figures = `([a-zA-Z0-9_./-]{1,20})`, `(0|[1-9][0-9]*)`
	for _, form := range []string{
		`sale ` + name + ` ([A-Z]{3}) ([a-zA-Z0-9_./-]{1,20}) ` + figures + `((?: [a-zA-Z0-9_./-]{1,20}:[1-9][0-9]*){1,8})`,
		`(?:refund|chargeback) ` + name + ` ` + name + ` ` + figures,
		`(?:reverse|hold|free) ` + name + ` ` + name,
		`tick`,
		`reply ([a-zA-Z0-9_./-]{1,60}) ` + name + ` ` + figures,
	} {
		if matches(form, s) {
			return areWords(strings.Split(s, " "))
		}
	}
	return false
}

// areWords is a model of what a pattern can't tell of a text's words.
func areWords(words []string) bool {
	kind := words[0]
	seen := map[string]bool{}
	for i, w := range words[1:] {
		isNumber := kind == "sale" && i == 3 || i == 2
		party, weight, isShare := strings.Cut(w, ":")
		switch {
		case isShare:
			if party == "-" || seen[party] || !isAmount(weight) || weight == "0" {
				return false
			}
			seen[party] = true
		case w == "-":
			if kind != "sale" || i != 2 {
				return false
			}
		case kind == "sale" && i == 2:
		case isNumber:
			if !isAmount(w) || w == "0" && kind != "reply" {
				return false
			}
		}
	}
	return true
}

func isAmount(figures string) bool {
	n, ok := new(big.Int).SetString(figures, 10)
	return ok && n.Cmp(big.NewInt(1<<50)) <= 0
}

// hold holds all that is promised of a command, and stops where it isn't.
func hold(t *testing.T, c api.Command, want api.Errno) {
	t.Helper()
	given := api.Command{Kind: c.Kind, ID: c.ID, About: c.About, Currency: c.Currency, Category: c.Category, Amount: c.Amount, Shares: slices.Clone(c.Shares)}
	for range 2 { // P2: told again, each call answers the same
		if e := Right(c); e != want {
			t.Fatalf("Right(%+v): %d, not %d", c, e, want)
		}
		wantBytes, wantText := "", ""
		if want == api.OK {
			wantBytes, wantText = bytesOf(c), textOf(c)
		}
		if b, e := Encode(c); e != want || b != wantBytes {
			t.Fatalf("Encode(%+v): %q, %d, not %q, %d", c, b, e, wantBytes, want)
		}
		if s, e := Print(c); e != want || s != wantText {
			t.Fatalf("Print(%+v): %q, %d, not %q, %d", c, s, e, wantText, want)
		}
		if !same(c, given) {
			t.Fatalf("%+v was changed: %+v", given, c)
		}
	}
	if want == api.OK {
		holdDecoded(t, bytesOf(c), c, api.OK)
		holdParsed(t, textOf(c), c, api.OK)
		return
	}
	holdDecoded(t, bytesOf(c), api.Command{}, api.ErrForm)
	// What a kind doesn't have isn't in its text, that may be another command's.
	if s := textOf(c); !isText(s) {
		holdParsed(t, s, api.Command{}, api.ErrForm)
	}
}

// same tells whether two commands are alike; no shares are like none.
func same(a, b api.Command) bool {
	l, m := a.Shares, b.Shares
	a.Shares, b.Shares = nil, nil
	return reflect.DeepEqual(a, b) && slices.Equal(l, m)
}

func holdDecoded(t *testing.T, s string, want api.Command, e api.Errno) {
	t.Helper()
	for range 2 {
		c, got := Decode(s)
		if got != e || !same(c, want) {
			t.Fatalf("Decode(%q): %+v, %d, not %+v, %d", s, c, got, want, e)
		}
	}
}

func holdParsed(t *testing.T, s string, want api.Command, e api.Errno) {
	t.Helper()
	for range 2 {
		c, got := Parse(s)
		if got != e || !same(c, want) {
			t.Fatalf("Parse(%q): %+v, %d, not %+v, %d", s, c, got, want, e)
		}
	}
}

// sale is one that may be.
func sale() api.Command {
	return all()[0].c
}

// TestExample: the chapter's own.
func TestExample(t *testing.T) {
	want := api.Command{Kind: "sale", ID: "s1", Currency: "EUR", Amount: 1000, Shares: []api.Share{{Party: "ann", Weight: 3}, {Party: "bob", Weight: 1}}}
	holdParsed(t, "sale s1 EUR - 1000 ann:3 bob:1", want, api.OK)
	if s, e := Print(want); s != "sale s1 EUR - 1000 ann:3 bob:1" || e != api.OK {
		t.Fatal(s, e)
	}
}

// TestWrittenOut: P18.1, of bytes and texts that are written out.
func TestWrittenOut(t *testing.T) {
	for _, x := range all() {
		if e := Right(x.c); e != api.OK {
			t.Fatal(x.text, e)
		}
		if b, e := Encode(x.c); b != x.bytes || e != api.OK {
			t.Fatalf("%s: %q, not %q (%d)", x.text, b, x.bytes, e)
		}
		if s, e := Print(x.c); s != x.text || e != api.OK {
			t.Fatalf("%q, not %q (%d)", s, x.text, e)
		}
		holdDecoded(t, x.bytes, x.c, api.OK)
		holdParsed(t, x.text, x.c, api.OK)
		hold(t, x.c, api.OK)
	}
}

// TestRightWrittenOut: P18.1, of commands that may not be.
func TestRightWrittenOut(t *testing.T) {
	ann := api.Share{Party: "ann", Weight: 1}
	long := strings.Repeat("n", 21)
	for _, c := range []api.Command{
		{},
		{ID: "s1"},
		{Kind: "Tick"}, {Kind: "what"}, {Kind: "what", ID: "a", About: "b"},
		{Kind: "tick", ID: "a"}, {Kind: "tick", About: "a"}, {Kind: "tick", Currency: "EUR"}, {Kind: "tick", Category: "a"}, {Kind: "tick", Amount: 1}, {Kind: "tick", Amount: -1}, {Kind: "tick", Shares: []api.Share{ann}}, {Kind: "tick", Shares: []api.Share{{}}},
		{Kind: "sale", Currency: "EUR", Amount: 5, Shares: []api.Share{ann}},
		{Kind: "sale", ID: "-", Currency: "EUR", Amount: 5, Shares: []api.Share{ann}},
		{Kind: "sale", ID: long, Currency: "EUR", Amount: 5, Shares: []api.Share{ann}},
		{Kind: "sale", ID: "s1", About: "s2", Currency: "EUR", Amount: 5, Shares: []api.Share{ann}},
		{Kind: "sale", ID: "s1", Amount: 5, Shares: []api.Share{ann}},
		{Kind: "sale", ID: "s1", Currency: "EU", Amount: 5, Shares: []api.Share{ann}},
		{Kind: "sale", ID: "s1", Currency: "EURO", Amount: 5, Shares: []api.Share{ann}},
		{Kind: "sale", ID: "s1", Currency: "EUr", Amount: 5, Shares: []api.Share{ann}},
		{Kind: "sale", ID: "s1", Currency: "E1R", Amount: 5, Shares: []api.Share{ann}},
		{Kind: "sale", ID: "s1", Currency: "EUR", Category: "-", Amount: 5, Shares: []api.Share{ann}},
		{Kind: "sale", ID: "s1", Currency: "EUR", Category: long, Amount: 5, Shares: []api.Share{ann}},
		{Kind: "sale", ID: "s1", Currency: "EUR", Shares: []api.Share{ann}},
		{Kind: "sale", ID: "s1", Currency: "EUR", Amount: -1, Shares: []api.Share{ann}},
		{Kind: "sale", ID: "s1", Currency: "EUR", Amount: 1<<50 + 1, Shares: []api.Share{ann}},
		{Kind: "sale", ID: "s1", Currency: "EUR", Amount: 5},
		{Kind: "sale", ID: "s1", Currency: "EUR", Amount: 5, Shares: []api.Share{{Party: "a:b", Weight: 1}}},
		{Kind: "sale", ID: "s1", Currency: "EUR", Amount: 5, Shares: []api.Share{{Party: "-", Weight: 1}}},
		{Kind: "sale", ID: "s1", Currency: "EUR", Amount: 5, Shares: []api.Share{{Party: "ann"}}},
		{Kind: "refund", ID: "r1", About: "s1"}, {Kind: "refund", ID: "r1", Amount: 1}, {Kind: "refund", About: "s1", Amount: 1}, {Kind: "refund", ID: "r1", About: "s1", Amount: 1, Currency: "EUR"}, {Kind: "refund", ID: "r1", About: "s1", Amount: 1, Category: "a"}, {Kind: "refund", ID: "r1", About: "s1", Amount: 1, Shares: []api.Share{ann}},
		{Kind: "chargeback", ID: "r1", About: "s1"}, {Kind: "chargeback", ID: "r1", Amount: 1}, {Kind: "chargeback", About: "s1", Amount: 1}, {Kind: "chargeback", ID: "r1", About: long, Amount: 1},
		{Kind: "reverse", ID: "r1"}, {Kind: "reverse", About: "s1"}, {Kind: "reverse", ID: "r1", About: "s1", Amount: 1},
		{Kind: "hold", ID: "h1"}, {Kind: "hold", About: "ann"}, {Kind: "hold", ID: "h1", About: "ann", Amount: 1}, {Kind: "hold", ID: "h1", About: "ann", Shares: []api.Share{ann}},
		{Kind: "free", ID: "h1"}, {Kind: "free", About: "ann"}, {Kind: "free", ID: "h1", About: "ann", Category: "a"},
		{Kind: "reply", About: "k"}, {Kind: "reply", Category: "a"}, {Kind: "reply", About: "k", Category: "-"}, {Kind: "reply", About: "-", Category: "a"}, {Kind: "reply", About: strings.Repeat("k", 61), Category: "a"}, {Kind: "reply", About: "k", Category: long}, {Kind: "reply", About: "k", Category: "a", Amount: -1}, {Kind: "reply", About: "k", Category: "a", Amount: 1<<50 + 1}, {Kind: "reply", ID: "r", About: "k", Category: "a"}, {Kind: "reply", About: "k", Category: "a", Currency: "EUR"}, {Kind: "reply", About: "k", Category: "a", Shares: []api.Share{ann}},
	} {
		hold(t, c, api.ErrArg)
	}
}

// TestSharesRight: P18.1: which error is answered, where shares aren't right, and where a command may not be for another reason too.
func TestSharesRight(t *testing.T) {
	nine := make([]api.Share, 9)
	for i := range nine {
		nine[i] = api.Share{Party: fmt.Sprint("p", i), Weight: 1 << 50}
	}
	ann, bob := api.Share{Party: "ann", Weight: 1}, api.Share{Party: "bob", Weight: 2}
	light, heavy := api.Share{Party: "cid", Weight: 0}, api.Share{Party: "dan", Weight: 1<<50 + 1}
	for _, x := range []struct {
		l    []api.Share
		want api.Errno
	}{
		{nil, api.ErrArg}, {[]api.Share{}, api.ErrArg}, {nine[:1], api.OK}, {nine[:8], api.OK}, {nine, api.ErrArg},
		{[]api.Share{ann, ann}, api.ErrTwice}, {[]api.Share{ann, bob, ann}, api.ErrTwice}, {[]api.Share{ann, {Party: "Ann", Weight: 1}}, api.OK},
		{[]api.Share{light}, api.ErrArg}, {[]api.Share{heavy}, api.ErrArg}, {[]api.Share{{Party: "ann", Weight: -1}}, api.ErrArg}, {[]api.Share{{Party: "ann", Weight: math.MinInt64}}, api.ErrArg},
		{[]api.Share{ann, ann, light}, api.ErrTwice}, {[]api.Share{ann, light, ann}, api.ErrArg}, {[]api.Share{heavy, ann, ann}, api.ErrArg},
		{[]api.Share{ann, ann, {Party: "c d", Weight: 1}}, api.ErrArg}, {[]api.Share{ann, ann, {Party: "", Weight: 1}}, api.ErrArg}, {[]api.Share{ann, ann, {Party: "-", Weight: 1}}, api.ErrArg}, {[]api.Share{ann, ann, {Party: strings.Repeat("n", 21), Weight: 1}}, api.ErrArg},
		{[]api.Share{{Party: "a b", Weight: 1}, {Party: "a b", Weight: 1}}, api.ErrArg},
	} {
		c := sale()
		c.Shares = x.l
		hold(t, c, x.want)
		for i, spoil := range []func(*api.Command){
			func(c *api.Command) { c.Kind = "tick" }, func(c *api.Command) { c.ID = "" }, func(c *api.Command) { c.About = "a" }, func(c *api.Command) { c.Currency = "eur" }, func(c *api.Command) { c.Category = "-" }, func(c *api.Command) { c.Amount = 0 },
		} {
			d := c
			spoil(&d)
			if e := Right(d); e != api.ErrArg {
				t.Fatalf("%d: %+v: %d", i, d, e)
			}
		}
	}
}

// texts are such as a field may have, or may not.
func texts() []string {
	return []string{"", "a", "-", "--", "a-", "-a", "s1", "EUR", "EU", "EURO", "eur", "EuR", "A_B", "../x/", "0", "accepted", "a b", "a:b", "é", "a\x00", "\xff",
		strings.Repeat("a", 20), strings.Repeat("a", 21), strings.Repeat("a", 60), strings.Repeat("a", 61)}
}

// numbers are those at an amount's edges.
func numbers() []int64 {
	return []int64{0, 1, -1, 2, 1<<50 - 1, 1 << 50, 1<<50 + 1, math.MaxInt64, math.MinInt64}
}

// lists are shares of some sorts.
func lists() [][]api.Share {
	return [][]api.Share{nil, {}, {{Party: "ann", Weight: 1}}, {{Party: "ann", Weight: 1}, {Party: "bob", Weight: 1 << 50}}, {{Party: "ann", Weight: 1}, {Party: "ann", Weight: 2}},
		{{Party: "", Weight: 1}}, {{Party: "ann", Weight: 0}}, {{Party: "a b", Weight: 1}}, {{}}}
}

// changes set one of a command's fields, each to each of its sorts.
func changes() []func(*api.Command) {
	var l []func(*api.Command)
	for _, k := range kinds() {
		l = append(l, func(c *api.Command) { c.Kind = k })
	}
	for _, s := range texts() {
		l = append(l, func(c *api.Command) { c.ID = s }, func(c *api.Command) { c.About = s }, func(c *api.Command) { c.Currency = s }, func(c *api.Command) { c.Category = s })
	}
	for _, n := range numbers() {
		l = append(l, func(c *api.Command) { c.Amount = n })
	}
	for _, x := range lists() {
		l = append(l, func(c *api.Command) { c.Shares = x })
	}
	return l
}

// TestEachTwoFields: P18.1 and P18.2, of commands with any two fields changed, against the model.
func TestEachTwoFields(t *testing.T) {
	l := changes()
	for _, x := range all() {
		for _, first := range l {
			c := x.c
			first(&c)
			hold(t, c, mayBe(c))
			for _, second := range l {
				d := c
				second(&d)
				if e := Right(d); e != mayBe(d) {
					t.Fatalf("Right(%+v): %d, not %d", d, e, mayBe(d))
				}
			}
		}
	}
}

// TestNames: P18.1, of what a name is, by each byte, wherever a name stands.
func TestNames(t *testing.T) {
	const letters = "abcdefghijklmnopqrstuvwxyzABCDEFGHIJKLMNOPQRSTUVWXYZ0123456789_./-"
	for b := range 256 {
		s := string([]byte{byte(b)})
		ok := strings.Contains(letters, s)
		for _, x := range []struct {
			name         string
			right, isKey bool
		}{{s, ok && s != "-", ok && s != "-"}, {s + s, ok, ok}, {"a" + s, ok, ok}, {s + "a", ok, ok}, {"a" + s + "a", ok, ok}, {strings.Repeat("a", 19) + s, ok, ok}, {s + strings.Repeat("a", 19), ok, ok}, {strings.Repeat("a", 20) + s, false, ok}, {s + strings.Repeat("a", 20), false, ok}} {
			holdName(t, x.name, x.right, x.isKey)
		}
		holdName(t, strings.Repeat("k", 59)+s, false, ok)
		holdName(t, s+strings.Repeat("k", 60), false, false)
	}
	// Letters of other scripts, texts that are not UTF-8, and the lengths' edges.
	for _, s := range []string{"", "é", "aé", "\u212a", "\u0131", "\uff41", "\u0430", "\ufffd", "\U0001d41a", "\xc3", "\xc3\xa9a", "a\xff", "\xed\xa0\x80", "\xc1\xa1", "a\n", "\ta", "a\u00a0", "a\u200b", "١", strings.Repeat("é", 10)} {
		holdName(t, s, false, false)
	}
	for n := range 130 {
		holdName(t, strings.Repeat("x", n), n >= 1 && n <= 20, n >= 1 && n <= 60)
		holdName(t, strings.Repeat("-", n), n >= 2 && n <= 20, n >= 2 && n <= 60)
	}
}

// holdName holds whether a text is a name, and a key, wherever one stands.
func holdName(t *testing.T, s string, right, isKey bool) {
	t.Helper()
	ann := []api.Share{{Party: "ann", Weight: 1}}
	for i, c := range []api.Command{
		{Kind: "sale", ID: s, Currency: "EUR", Amount: 1, Shares: ann},
		{Kind: "sale", ID: "s1", Currency: "EUR", Category: s, Amount: 1, Shares: ann},
		{Kind: "sale", ID: "s1", Currency: "EUR", Amount: 1, Shares: []api.Share{{Party: s, Weight: 1}}},
		{Kind: "sale", ID: "s1", Currency: "EUR", Amount: 1, Shares: []api.Share{{Party: "other", Weight: 1}, {Party: s, Weight: 1}}},
		{Kind: "refund", ID: s, About: "s1", Amount: 1}, {Kind: "refund", ID: "r1", About: s, Amount: 1},
		{Kind: "chargeback", ID: s, About: "s1", Amount: 1}, {Kind: "chargeback", ID: "r1", About: s, Amount: 1},
		{Kind: "reverse", ID: s, About: "s1"}, {Kind: "reverse", ID: "r1", About: s},
		{Kind: "hold", ID: s, About: "s1"}, {Kind: "hold", ID: "r1", About: s},
		{Kind: "free", ID: s, About: "s1"}, {Kind: "free", ID: "r1", About: s},
		{Kind: "reply", About: "k", Category: s},
		{Kind: "reply", About: s, Category: "a"},
	} {
		want := api.ErrArg
		switch {
		case i == 1 && s == "", right && i < 15, isKey && i == 15:
			want = api.OK
		}
		hold(t, c, want)
	}
}

// TestCurrencies: P18.1, of what a currency is, by each byte.
func TestCurrencies(t *testing.T) {
	for b := range 256 {
		s := string([]byte{byte(b)})
		ok := s >= "A" && s <= "Z"
		for _, x := range []struct {
			currency string
			right    bool
		}{{s, false}, {s + s, false}, {s + s + s, ok}, {"A" + s + "Z", ok}, {s + "AZ", ok}, {"ZA" + s, ok}, {"EUR" + s, false}, {s + "EUR", false}} {
			c := sale()
			c.Currency = x.currency
			want := api.ErrArg
			if x.right {
				want = api.OK
			}
			hold(t, c, want)
		}
	}
	for _, s := range []string{"", "É", "AÉ", "\uff21", "\u212aA"} {
		c := sale()
		c.Currency = s
		hold(t, c, api.ErrArg)
	}
}

// TestAmounts: P18.1, of what an amount may be, by each kind.
func TestAmounts(t *testing.T) {
	for _, x := range all() {
		for _, n := range numbers() {
			c := x.c
			c.Amount = n
			want := api.ErrArg
			switch c.Kind {
			case "sale", "refund", "chargeback":
				if n == 1 || n == 2 || n == 1<<50-1 || n == 1<<50 {
					want = api.OK
				}
			case "reply":
				if n == 0 || n == 1 || n == 2 || n == 1<<50-1 || n == 1<<50 {
					want = api.OK
				}
			default:
				if n == 0 {
					want = api.OK
				}
			}
			hold(t, c, want)
		}
	}
}

// TestDecodeEachByte: P18.1 and P18.2, of bytes that are changed, cut, or one more.
func TestDecodeEachByte(t *testing.T) {
	for _, x := range all() {
		for i := range len(x.bytes) {
			holdDecoded(t, x.bytes[:i], api.Command{}, api.ErrForm)
			holdDecoded(t, x.bytes[i+1:], api.Command{}, api.ErrForm)
			holdSomeBytes(t, x.bytes[:i]+x.bytes[i+1:])
			for b := range 256 {
				holdSomeBytes(t, x.bytes[:i]+string([]byte{byte(b)})+x.bytes[i+1:])
			}
		}
		for b := range 256 {
			holdDecoded(t, x.bytes+string([]byte{byte(b)}), api.Command{}, api.ErrForm)
		}
		holdDecoded(t, x.bytes+x.bytes, api.Command{}, api.ErrForm)
	}
}

// holdSomeBytes holds that bytes are decoded just if they are a right command's.
func holdSomeBytes(t *testing.T, s string) {
	t.Helper()
	c, e := Decode(s)
	switch e {
	case api.OK:
		if own := bytesOf(c); own != s || mayBe(c) != api.OK {
			t.Fatalf("Decode(%q): %+v", s, c)
		}
	case api.ErrForm:
		if !same(c, api.Command{}) {
			t.Fatalf("Decode(%q): %+v beside an error", s, c)
		}
		if read, ok := modelDecode(s); ok && mayBe(read) == api.OK {
			t.Fatalf("Decode(%q): ErrForm, though it is %+v", s, read)
		}
	default:
		t.Fatalf("Decode(%q): %d", s, e)
	}
}

// modelDecode is a model of what bytes say; false, if they aren't a command's by their lengths.
func modelDecode(s string) (c api.Command, ok bool) {
	defer func() {
		if recover() != nil { // too few bytes
			c, ok = api.Command{}, false
		}
	}()
	number := func() int64 {
		n := binary.LittleEndian.Uint64([]byte(s[:8]))
		s = s[8:]
		return int64(n)
	}
	text := func() string {
		n := binary.LittleEndian.Uint16([]byte(s[:2]))
		x := s[2 : 2+int(n)]
		s = s[2+int(n):]
		return x
	}
	c.Kind, c.ID, c.About, c.Currency, c.Category = text(), text(), text(), text(), text()
	c.Amount = number()
	n := number()
	if n < 0 {
		return c, false
	}
	for range n {
		c.Shares = append(c.Shares, api.Share{Party: text(), Weight: number()})
	}
	return c, s == ""
}

// TestDecodeShares: P18.1, of numbers of shares that aren't those that stand there.
func TestDecodeShares(t *testing.T) {
	front := "\x04\x00sale\x02\x00s1\x00\x00\x03\x00EUR\x00\x00" + "\xe8\x03\x00\x00\x00\x00\x00\x00"
	for stand := range 11 {
		shares := ""
		for i := range stand {
			shares += "\x01\x00" + string(rune('a'+i)) + "\x07\x00\x00\x00\x00\x00\x00\x00"
		}
		for _, n := range []int64{-1, 0, 1, 2, 3, 4, 5, 6, 7, 8, 9, 10, 11, 255, 256, 1 << 32, 1<<32 + 1, 1 << 62, math.MaxInt64, math.MinInt64, math.MinInt64 + 1, -8, -1 << 32} {
			s := front + string(binary.LittleEndian.AppendUint64(nil, uint64(n))) + shares
			c, e := Decode(s)
			want := api.ErrForm
			if n == int64(stand) && n >= 1 && n <= 8 {
				want = api.OK
			}
			if e != want || e != api.OK && !same(c, api.Command{}) || e == api.OK && len(c.Shares) != stand {
				t.Fatalf("%d shares, of which %d stand there: %+v, %d", n, stand, c, e)
			}
		}
	}
}

// TestDecodeWrong: P18.1, of bytes that are none's.
func TestDecodeWrong(t *testing.T) {
	for _, s := range []string{"", "\x00", "tick", "\x04\x00tick", "sale s1 EUR - 1000 ann:3 bob:1", strings.Repeat("\x00", 26), strings.Repeat("\xff", 26), strings.Repeat("\x00", 1000), "\xff\xff" + strings.Repeat("a", 70000),
		bytesOf(api.Command{Kind: "Tick"}), bytesOf(api.Command{Kind: strings.Repeat("t", 65535)}), bytesOf(api.Command{Kind: "tick", ID: strings.Repeat("t", 65535)})} {
		holdDecoded(t, s, api.Command{}, api.ErrForm)
	}
}

// TestParseWrong: P18.1, of texts that are none's, written out.
func TestParseWrong(t *testing.T) {
	for _, s := range []string{
		"", " ", "  ", "-", "what", "Tick", "TICK", "ticks", "tic", "tick ", " tick", "tick 1", "tick -", "tick  ", "tick\n", "tick\x00",
		"sale", "sale s1", "sale s1 EUR", "sale s1 EUR -", "sale s1 EUR - 1000", "sale s1 EUR - 1000 ", "sale s1 EUR - ann:3", "sale s1 EUR 1000 ann:3", "sale s1 - 1000 ann:3", "sale EUR - 1000 ann:3",
		" sale s1 EUR - 1000 ann:3", "sale s1 EUR - 1000 ann:3 ", "sale  s1 EUR - 1000 ann:3", "sale s1  EUR - 1000 ann:3", "sale s1 EUR  - 1000 ann:3", "sale s1 EUR -  1000 ann:3", "sale s1 EUR - 1000  ann:3", "sale s1 EUR - 1000 ann:3  bob:1",
		"sale  EUR - 1000 ann:3", "sale s1  - 1000 ann:3", "sale s1 EUR  1000 ann:3", "sale s1 EUR -  ann:3", "sale - EUR - 1000 ann:3", "sale s1 - - 1000 ann:3", "sale s1 EUR - - ann:3", "sale s1 EUR - 1000 -", "sale s1 EUR - 1000 -:3", "sale s1 EUR - 1000 ann:-",
		"sale s1 EUR - 1000\tann:3", "sale s1 EUR - 1000\u00a0ann:3", "sale s1 EUR - 1000 ann:3\n", "sale s1 EUR - 1000 ann:3,bob:1", "sale s1 EUR - 1000 ann:3bob:1",
		"sale s1 eur - 1000 ann:3", "sale s1 EU - 1000 ann:3", "sale s1 EURO - 1000 ann:3", "sale s1 EUR a:b 1000 ann:3", "sale a:b EUR - 1000 ann:3", "sale s1 EUR books books 1000 ann:3",
		"sale s1 EUR - 01000 ann:3", "sale s1 EUR - 0 ann:3", "sale s1 EUR - 00 ann:3", "sale s1 EUR - +1 ann:3", "sale s1 EUR - -1 ann:3", "sale s1 EUR - 1_000 ann:3", "sale s1 EUR - 1e3 ann:3", "sale s1 EUR - 0x10 ann:3", "sale s1 EUR - 1.0 ann:3", "sale s1 EUR - 1000a ann:3", "sale s1 EUR - a ann:3", "sale s1 EUR - ١ ann:3",
		"sale s1 EUR - 1125899906842625 ann:3", "sale s1 EUR - 9223372036854775807 ann:3", "sale s1 EUR - 9223372036854775808 ann:3", "sale s1 EUR - 18446744073709551617 ann:3", "sale s1 EUR - 100000000000000000000000 ann:3",
		"sale s1 EUR - 1000 ann", "sale s1 EUR - 1000 ann:", "sale s1 EUR - 1000 :3", "sale s1 EUR - 1000 :", "sale s1 EUR - 1000 ann:3:", "sale s1 EUR - 1000 ann::3", "sale s1 EUR - 1000 ann:3:3", "sale s1 EUR - 1000 :ann:3", "sale s1 EUR - 1000 3:", "sale s1 EUR - 1000 ann 3", "sale s1 EUR - 1000 ann :3", "sale s1 EUR - 1000 ann: 3",
		"sale s1 EUR - 1000 ann:03", "sale s1 EUR - 1000 ann:0", "sale s1 EUR - 1000 ann:+3", "sale s1 EUR - 1000 ann:-3", "sale s1 EUR - 1000 ann:3x", "sale s1 EUR - 1000 ann:1125899906842625", "sale s1 EUR - 1000 ann:9223372036854775808", "sale s1 EUR - 1000 ann:18446744073709551617",
		"sale s1 EUR - 1000 ann:3 ann:3", "sale s1 EUR - 1000 ann:3 bob:1 ann:1", "sale s1 EUR - 1000 a:1 b:1 c:1 d:1 e:1 f:1 g:1 h:1 i:1", "sale s1 EUR - 1000 a:1 b:1 c:1 d:1 e:1 f:1 g:1 h:1 ", "sale s1 EUR - 1000 a:1 b:1 c:1 d:1 e:1 f:1 g:1 h:1 i:1 j:1 k:1",
		"refund", "refund r1", "refund r1 s1", "refund r1 s1 0", "refund r1 s1 -1", "refund r1 s1 01", "refund r1 s1 1 ", "refund r1 s1 1 1", "refund r1 s1 1 ann:1", "refund r1 s1 s1 1", "refund - s1 1", "refund r1 - 1", "refund r1 s1 -", "refund  s1 1", "refund r1  1", "refund r1 s1 ", "refund r1 s1 1125899906842625", "refund r1 1", "refund r1 s1 EUR 1",
		"chargeback", "chargeback c1", "chargeback c1 s1", "chargeback c1 s1 0", "chargeback c1 s1 1 1", "chargeback - s1 1", "chargeback c1 - 1", "chargeback c1 s1 -",
		"reverse", "reverse v1", "reverse v1 ", "reverse v1 c1 ", "reverse v1 c1 1", "reverse - c1", "reverse v1 -", "reverse  c1", "reverse v1  c1",
		"hold", "hold h1", "hold h1 ann 3", "hold h1 ann:3", "hold - ann", "hold h1 -", "hold h1 ann ", " hold h1 ann",
		"free", "free f1", "free f1 ann 0", "free f1 a:b", "free - ann", "free f1 -", "free f1  ann",
		"reply", "reply k", "reply k a", "reply k a ", "reply k a -1", "reply k a -0", "reply k a +0", "reply k a 00", "reply k a 01", "reply k a -", "reply k - 0", "reply - a 0", "reply k  0", "reply  a 0", "reply k a 0 ", "reply k a 0 0", "reply k what -1", "reply k a 1125899906842625", "reply k a 9223372036854775808", "reply r1 k a 0", "reply k:k a 0",
	} {
		if isText(s) {
			t.Fatalf("the model takes %q", s)
		}
		holdParsed(t, s, api.Command{}, api.ErrForm)
	}
}

// TestParseEachByte: P18.1 and P18.2, of texts of which a byte is changed, left out, or told twice, against the model.
func TestParseEachByte(t *testing.T) {
	for _, x := range all() {
		for i := range len(x.text) {
			holdSomeText(t, x.text[:i])
			holdSomeText(t, x.text[i:])
			holdSomeText(t, x.text[:i]+x.text[i+1:])
			for b := range 256 {
				s := string([]byte{byte(b)})
				holdSomeText(t, x.text[:i]+s+x.text[i+1:])
				holdSomeText(t, x.text[:i]+s+x.text[i:])
			}
		}
		for b := range 256 {
			holdSomeText(t, x.text+string([]byte{byte(b)}))
		}
	}
}

// TestParseEachWord: P18.1 and P18.2, of texts of which a word is another one, left out, or told twice, against the model.
func TestParseEachWord(t *testing.T) {
	others := append(texts(), kinds()...)
	others = append(others, "0", "1", "-1", "00", "1125899906842624", "1125899906842625", "9223372036854775808", "ann:1", "cid:5", "ann:", ":1", ":", "a:1:1", "cid:0", "cid:01", "-:1")
	for _, x := range all() {
		words := strings.Split(x.text, " ")
		for i := range words {
			for _, o := range others {
				holdSomeText(t, strings.Join(slices.Replace(slices.Clone(words), i, i+1, o), " "))
				holdSomeText(t, strings.Join(slices.Insert(slices.Clone(words), i, o), " "))
			}
			holdSomeText(t, strings.Join(slices.Delete(slices.Clone(words), i, i+1), " "))
			holdSomeText(t, strings.Join(slices.Insert(slices.Clone(words), i, words[i]), " "))
		}
		for _, o := range others {
			holdSomeText(t, x.text+" "+o)
		}
	}
}

// holdSomeText holds that a text is parsed just if the model takes it, and is printed again as it was.
func holdSomeText(t *testing.T, s string) {
	t.Helper()
	c, e := Parse(s)
	if !isText(s) {
		if e != api.ErrForm || !same(c, api.Command{}) {
			t.Fatalf("Parse(%q): %+v, %d", s, c, e)
		}
		return
	}
	if e != api.OK || mayBe(c) != api.OK || textOf(c) != s {
		t.Fatalf("Parse(%q): %+v, %d", s, c, e)
	}
	if own, e := Print(c); e != api.OK || own != s {
		t.Fatalf("Print(Parse(%q)): %q, %d", s, own, e)
	}
}

// TestGreat: P1: what is much too long, or too many, is told from, and soon.
func TestGreat(t *testing.T) {
	const many = 1 << 22
	for _, s := range []string{strings.Repeat(" ", many), "tick" + strings.Repeat(" ", many), "sale s1 EUR - 1" + strings.Repeat(" a:1", many), "sale " + strings.Repeat("a", many) + " EUR - 1 a:1", "sale s1 EUR - 1 a:" + strings.Repeat("1", many), "sale s1 EUR - 1 a:" + strings.Repeat("0", many) + "1", "sale s1 EUR - 1 " + strings.Repeat(":", many), strings.Repeat("a", many), "reply k a " + strings.Repeat("9", many)} {
		holdParsed(t, s, api.Command{}, api.ErrForm)
		holdDecoded(t, s, api.Command{}, api.ErrForm)
	}
	long := strings.Repeat("a", many)
	shares := make([]api.Share, 1<<16)
	for i := range shares {
		shares[i] = api.Share{Party: fmt.Sprint(i), Weight: 1}
	}
	for _, c := range []api.Command{{Kind: long}, {Kind: "tick", ID: long}, {Kind: "hold", ID: long, About: "ann"}, {Kind: "reply", About: long, Category: "a"}, {Kind: "sale", ID: "s1", Currency: "EUR", Amount: 1, Shares: shares}, {Kind: "tick", Shares: shares}} {
		b, e := Encode(c)
		s, f := Print(c)
		if g := Right(c); b != "" || s != "" || e != api.ErrArg || f != api.ErrArg || g != api.ErrArg {
			t.Fatal(c.Kind, e, f, g)
		}
	}
}

// TestNotShared: what is handed in isn't changed, what lies behind a list's length isn't either, and what is answered is shared with nobody.
func TestNotShared(t *testing.T) {
	list := []api.Share{{Party: "bob", Weight: 2}, {Party: "ann", Weight: 1}, {Party: "behind", Weight: -5}, {}}
	was := slices.Clone(list)
	for n := range len(list) + 1 {
		c := sale()
		c.Shares = list[:n]
		Right(c)
		Encode(c)
		Print(c)
		if !slices.Equal(list, was) {
			t.Fatalf("the shares were changed: %+v", list)
		}
	}
	for _, read := range []func() api.Command{
		func() api.Command { c, _ := Parse(all()[0].text); return c },
		func() api.Command { c, _ := Decode(all()[0].bytes); return c },
	} {
		first, second := read(), read()
		first.Shares[0] = api.Share{Party: "mallory", Weight: 1000}
		_ = append(first.Shares, api.Share{Party: "mallory", Weight: 1000})
		if third := read(); !same(second, sale()) || !same(third, sale()) {
			t.Fatalf("%+v, %+v", second, third)
		}
	}
}

// TestManyCommands: P18.2, of random commands: what is encoded is decoded, what is printed is parsed, and no two are alike as bytes, or as texts.
func TestManyCommands(t *testing.T) {
	r := rand.New(rand.NewPCG(18, 1))
	byBytes, byText := map[string]string{}, map[string]string{}
	for range 20000 {
		c := random(r)
		hold(t, c, mayBe(c))
		if mayBe(c) != api.OK {
			continue
		}
		b, _ := Encode(c)
		s, _ := Print(c)
		if x, ok := byBytes[b]; ok && x != s {
			t.Fatalf("%q: %q and %q", b, x, s)
		}
		if x, ok := byText[s]; ok && x != b {
			t.Fatalf("%q: %q and %q", s, x, b)
		}
		byBytes[b], byText[s] = s, b
	}
	if len(byText) < 10000 {
		t.Fatal("too few commands may be:", len(byText))
	}
}

// random is a command that mostly may be.
func random(r *rand.Rand) api.Command {
	name := func(most int) string {
		const letters = "abzAZ059_./-"
		b := make([]byte, 1+r.IntN(most))
		for i := range b {
			b[i] = letters[r.IntN(len(letters))]
		}
		return string(b)
	}
	number := func() int64 { return 1 + r.Int64N(1<<r.IntN(51)) }
	c := api.Command{Kind: kinds()[r.IntN(8)]}
	switch c.Kind {
	case "sale":
		c.ID, c.Currency, c.Amount = name(20), []string{"EUR", "USD", "AAA", "ZZZ"}[r.IntN(4)], number()
		if r.IntN(2) == 0 {
			c.Category = name(20)
		}
		for range 1 + r.IntN(8) {
			c.Shares = append(c.Shares, api.Share{Party: name(20), Weight: number()})
		}
	case "refund", "chargeback":
		c.ID, c.About, c.Amount = name(20), name(20), number()
	case "reverse", "hold", "free":
		c.ID, c.About = name(20), name(20)
	case "reply":
		c.About, c.Category, c.Amount = name(60), name(20), number()-1
	}
	if r.IntN(4) == 0 {
		l := changes()
		l[r.IntN(len(l))](&c)
	}
	return c
}

// TestManyTexts: P18.2, of texts and bytes made of random words and pieces: whatever is parsed is printed, whatever is decoded is encoded, as it was.
func TestManyTexts(t *testing.T) {
	r := rand.New(rand.NewPCG(18, 2))
	words := append(texts(), kinds()[:8]...)
	words = append(words, "1", "0", "77", "1125899906842624", "ann:1", "bob:2", "cid:1125899906842624", "ann:0", "EUR", "EUR", "-", "x")
	for range 200000 {
		l := []string{kinds()[r.IntN(8)]}
		for range r.IntN(7) {
			l = append(l, words[r.IntN(len(words))])
		}
		holdSomeText(t, strings.Join(l, " "))
	}
	for range 20000 {
		b := []byte(bytesOf(random(r)))
		for range r.IntN(3) {
			b[r.IntN(len(b))] = byte(r.IntN(256))
		}
		if i := r.IntN(len(b)); r.IntN(4) == 0 {
			b = slices.Delete(b, i, i+1)
		}
		holdSomeBytes(t, string(b))
	}
}
