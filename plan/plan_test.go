package plan

import (
	"fmt"
	"math"
	"math/big"
	"math/rand/v2"
	"regexp"
	"slices"
	"strconv"
	"strings"
	"testing"

	"souk/api"
	"souk/lex"
)

const (
	mostNumber = 9999999999999999 // the greatest that a token may say
	mostRate   = 100000099        // likewise: 1000000.99%
	longName   = "abcdefghijklmnopqrst"
)

// kinds are all that there are, each with the parts that it has, as letters: its Name, its N, its Rate.
var kinds = map[string]string{"tier": "NR", "category": "TR", "cap": "N", "minimum": "N", "tax": "R", "reserve": "RN"}

func sortedKinds() []string {
	var l []string
	for k := range kinds {
		l = append(l, k)
	}
	slices.Sort(l)
	return l
}

// wantRules holds what Parse answers of a text that has no error.
func wantRules(t *testing.T, s string, want ...api.Rule) {
	t.Helper()
	l, at, e := Parse(s)
	if e != api.OK || at != 0 || !slices.Equal(l, want) {
		t.Errorf("Parse(%.100q) = %.300s, %d, %d, want %.300s", s, fmt.Sprint(l), at, e, fmt.Sprint(want))
	}
}

// wantError holds what Parse answers of a text that has one.
func wantError(t *testing.T, s string, place int, want api.Errno) {
	t.Helper()
	l, at, e := Parse(s)
	if len(l) != 0 || at != place || e != want {
		t.Errorf("Parse(%.100q) = %.300s, %d, %d, want none, %d, %d", s, fmt.Sprint(l), at, e, place, want)
	}
}

// wantText holds what Show answers of rules that a text says.
func wantText(t *testing.T, want string, l ...api.Rule) {
	t.Helper()
	s, e := Show(l...)
	if e != api.OK || s != want {
		t.Errorf("Show(%.300s) = %.300q, %d, want %.300q", fmt.Sprint(l), s, e, want)
	}
	wantRules(t, want, l...)
}

// wantNoText holds what Show answers of rules that no text says.
func wantNoText(t *testing.T, l ...api.Rule) {
	t.Helper()
	if s, e := Show(l...); e != api.ErrArg || s != "" {
		t.Errorf("Show(%.300s) = %.300q, %d, want none, %d", fmt.Sprint(l), s, e, api.ErrArg)
	}
}

// P9.1, Known.

func TestKnown(t *testing.T) {
	for k := range kinds {
		if !Known(k) {
			t.Errorf("Known(%q) is false", k)
		}
		for _, other := range []string{" " + k, k + " ", k + ";", k + "s", k[1:], k[:len(k)-1], strings.ToUpper(k), strings.ToUpper(k[:1]) + k[1:], k + k, k + "\x00"} {
			if Known(other) {
				t.Errorf("Known(%q) is true", other)
			}
		}
	}
	for _, other := range []string{"", " ", ";", "name", "number", "rate", "end", "sale", "fee", "what", "5", "5%", "0", "\xff", longName, strings.Repeat("tier", 1000)} {
		if Known(other) {
			t.Errorf("Known(%q) is true", other)
		}
	}
}

// P9.1, rules.

func TestPlanOfTheExample(t *testing.T) {
	wantRules(t, "tier 0 2.9%; cap 500;", api.Rule{Kind: "tier", Rate: 290}, api.Rule{Kind: "cap", N: 500})
}

func TestEachKindWithItsParts(t *testing.T) {
	for _, c := range []struct {
		s    string
		want api.Rule
	}{
		{"tier 7 1.5%;", api.Rule{Kind: "tier", N: 7, Rate: 150}},
		{"category books 4.05%;", api.Rule{Kind: "category", Name: "books", Rate: 405}},
		{"cap 500;", api.Rule{Kind: "cap", N: 500}},
		{"minimum 3;", api.Rule{Kind: "minimum", N: 3}},
		{"tax 19%;", api.Rule{Kind: "tax", Rate: 1900}},
		{"reserve 10% 30;", api.Rule{Kind: "reserve", N: 30, Rate: 1000}},
		// Whether a number, or a rate, is sound isn't asked here.
		{"tier 9999999999999999 1000000.99%;", api.Rule{Kind: "tier", N: mostNumber, Rate: mostRate}},
		{"tier 0 0%;", api.Rule{Kind: "tier"}},
		{"category " + longName + " 1000000.99%;", api.Rule{Kind: "category", Name: longName, Rate: mostRate}},
		{"cap 0;", api.Rule{Kind: "cap"}},
		{"cap 9999999999999999;", api.Rule{Kind: "cap", N: mostNumber}},
		{"minimum 9999999999999999;", api.Rule{Kind: "minimum", N: mostNumber}},
		{"tax 0.01%;", api.Rule{Kind: "tax", Rate: 1}},
		{"tax 1000000.99%;", api.Rule{Kind: "tax", Rate: mostRate}},
		{"reserve 1000000.99% 9999999999999999;", api.Rule{Kind: "reserve", N: mostNumber, Rate: mostRate}},
		{"cap 007;", api.Rule{Kind: "cap", N: 7}},
		{"tax 05.5%;", api.Rule{Kind: "tax", Rate: 550}},
	} {
		wantRules(t, c.s, c.want)
		wantRules(t, "\n"+c.s+"cap 1;"+c.s, c.want, api.Rule{Kind: "cap", N: 1}, c.want)
	}
}

// A category's name may be any, a kind's too.
func TestCategoriesOfKindsNames(t *testing.T) {
	for k := range kinds {
		r := api.Rule{Kind: "category", Name: k, Rate: 100}
		wantRules(t, "category "+k+" 1%;", r)
		wantText(t, "category "+k+" 1%;\n", r)
	}
}

func TestRulesStayInOrder(t *testing.T) {
	wantRules(t, "reserve 1% 2; tier 9 3%; tier 4 5%; tax 6%; tier 9 3%; cap 8; minimum 7; cap 8; category b 1%; category a 2%; category b 1%;",
		api.Rule{Kind: "reserve", Rate: 100, N: 2}, api.Rule{Kind: "tier", N: 9, Rate: 300}, api.Rule{Kind: "tier", N: 4, Rate: 500},
		api.Rule{Kind: "tax", Rate: 600}, api.Rule{Kind: "tier", N: 9, Rate: 300}, api.Rule{Kind: "cap", N: 8}, api.Rule{Kind: "minimum", N: 7},
		api.Rule{Kind: "cap", N: 8}, api.Rule{Kind: "category", Name: "b", Rate: 100}, api.Rule{Kind: "category", Name: "a", Rate: 200}, api.Rule{Kind: "category", Name: "b", Rate: 100})
}

func TestBlanksBetween(t *testing.T) {
	tier, limit := api.Rule{Kind: "tier", N: 1, Rate: 200}, api.Rule{Kind: "cap", N: 5}
	wantRules(t, "tier 1 2%;cap 5;", tier, limit)
	wantRules(t, "tier1\n2%;cap5;", tier, limit)
	wantRules(t, "\t\ttier\n\n1\t2%\n;\n\n cap\t5 ; \n", tier, limit)
	wantRules(t, "reserve2%1;", api.Rule{Kind: "reserve", N: 1, Rate: 200})
	wantRules(t, "category b2%;", api.Rule{Kind: "category", Name: "b", Rate: 200})
	// Without a blank these are one name.
	wantError(t, "cap 5; categorya 2%;", 7, api.ErrForm)
	for _, s := range []string{"", " ", "\n", "\t", " \n\t \n\t "} {
		wantRules(t, s)
	}
}

// P9.1, what is no rule.

// wantNoRule holds that a text is none, alone, as the first, and as a last one.
func wantNoRule(t *testing.T, s string) {
	t.Helper()
	wantError(t, s, 0, api.ErrForm)
	wantError(t, " \n"+s, 2, api.ErrForm)
	wantError(t, s+" cap 5;", 0, api.ErrForm)
	wantError(t, "tier 0 5%; "+s, 11, api.ErrForm)
	wantError(t, "tier 0 5%;"+s+"cap 5;", 10, api.ErrForm)
}

// TestPartsOfEachKind goes through each list of up to three parts behind each kind.
func TestPartsOfEachKind(t *testing.T) {
	words := map[byte]string{'T': " books", 'N': " 5", 'R': " 2.9%"}
	var lists []string
	for _, first := range []string{"", "T", "N", "R"} {
		for _, second := range []string{"", "T", "N", "R"} {
			for _, third := range []string{"", "T", "N", "R"} {
				lists = append(lists, first+second+third)
			}
		}
	}
	for k, parts := range kinds {
		rights := 0
		for _, l := range lists {
			s := k
			for i := range len(l) {
				s += words[l[i]]
			}
			if l != parts {
				wantNoRule(t, s+";")
				continue
			}
			rights++
			want := api.Rule{Kind: k}
			for i := range len(l) {
				switch l[i] {
				case 'T':
					want.Name = "books"
				case 'N':
					want.N = 5
				case 'R':
					want.Rate = 290
				}
			}
			wantRules(t, s+";", want)
		}
		if rights == 0 {
			t.Errorf("no list is %q", parts)
		}
	}
}

func TestPartsThatAreWrong(t *testing.T) {
	for _, s := range []string{
		"tier;", "tier 5;", "tier 5%;", "tier 5% 5;", "tier 5 5;", "tier 5% 5%;", "tier 5 5% 5;", "tier 5 5% x;", "tier x 5%;", "tier 5 x;", "tier 5 5% 5%;", "tier 5 5 5%;",
		"category;", "category x;", "category 5%;", "category 5% x;", "category x 5;", "category 5 5%;", "category x 5% 5;", "category x x 5%;", "category x x;", "category x 5% x;", "category 5% 5%;",
		"cap;", "cap 5%;", "cap x;", "cap 5 5;", "cap 5 x;", "cap 5 5%;", "cap cap 5;", "cap 5 cap 5;",
		"minimum;", "minimum 5%;", "minimum x;", "minimum 5 5;", "minimum 5 x;", "minimum 5% 5;",
		"tax;", "tax 5;", "tax x;", "tax 5% 5%;", "tax 5% 5;", "tax 5 5%;", "tax 5% x;",
		"reserve;", "reserve 5%;", "reserve 5;", "reserve 5 5%;", "reserve 5% 5%;", "reserve 5 5;", "reserve 5% 5 5;", "reserve 5% x;", "reserve x 5;", "reserve 5% 5 x;", "reserve 5% 5%;",
		"tier 0 5% cap 5;", "reserve 5% 5 category x 5%;",
	} {
		wantNoRule(t, s)
	}
}

func TestKindsThatThereAreNot(t *testing.T) {
	for _, s := range []string{"what 5;", "what;", "x 5%;", "tiers 0 5%;", "tie 0 5%;", "caps 5;", "ca p 5;", "t 5%;", "books 5%;", "max 5;", "min 5;", "number 5;", longName + " 5;"} {
		wantNoRule(t, s)
	}
	// What is no name is no kind.
	for _, s := range []string{"5;", "5%;", "0;", "5 5%;", "5 cap;", "5% tax;", "5 cap 5;", "0 0;", "0%;", "1 2 3 4 5;"} {
		wantNoRule(t, s)
	}
}

func TestAnEndAlone(t *testing.T) {
	wantNoRule(t, ";")
	wantNoRule(t, ";;")
	wantError(t, "cap 5;;", 6, api.ErrForm)
	wantError(t, "cap 5; ;", 7, api.ErrForm)
	wantError(t, "cap 5;\n;\n;", 7, api.ErrForm)
	wantError(t, "cap ; 5;", 0, api.ErrForm)
	wantError(t, "; cap", 0, api.ErrForm)
}

func TestALastRuleWithoutItsEnd(t *testing.T) {
	for _, s := range []string{"tier 0 5%", "category x 5%", "cap 5", "minimum 5", "tax 5%", "reserve 5% 5", "cap", "what", "5", "5%", "tier 0"} {
		for _, s := range []string{s, s + " ", s + "\n"} {
			wantError(t, s, 0, api.ErrForm)
			wantError(t, "\t"+s, 1, api.ErrForm)
			wantError(t, "cap 5; "+s, 7, api.ErrForm)
			wantError(t, "cap 5;tax 5%;"+s, 13, api.ErrForm)
		}
	}
	wantError(t, "cap 5 tier 0 5%;", 0, api.ErrForm)
}

func TestTheFirstRuleThatIsNoneDecides(t *testing.T) {
	wantError(t, "cap 5; cap 5%; what;", 7, api.ErrForm)
	wantError(t, "cap 5; what; cap 5%;", 7, api.ErrForm)
	wantError(t, "cap 5; tier 0 5%; ; cap 5", 18, api.ErrForm)
	wantError(t, "cap 5; tier 0; cap 5", 7, api.ErrForm)
	wantError(t, "cap 5 5; cap", 0, api.ErrForm)
}

// P9.1, how many.

func TestFortyRulesAndMore(t *testing.T) {
	if api.MaxRules != 40 {
		t.Fatalf("the most rules are %d", api.MaxRules)
	}
	cap1 := api.Rule{Kind: "cap", N: 1}
	forty := strings.Repeat("cap 1;", 40)
	for _, n := range []int{1, 2, 39, 40} {
		wantRules(t, strings.Repeat("cap 1;", n), slices.Repeat([]api.Rule{cap1}, n)...)
	}
	wantRules(t, forty+" \n", slices.Repeat([]api.Rule{cap1}, 40)...)
	wantRules(t, strings.Repeat("cap 1;", 39)+"tax 2%;", append(slices.Repeat([]api.Rule{cap1}, 39), api.Rule{Kind: "tax", Rate: 200})...)
	for _, s := range []string{
		"cap 1;", "cap 1; ", "tier 0 5%;", "category x 5%;", "minimum 1;", "tax 5%;", "reserve 5% 5;", // the 41st is one
		"cap 1;cap 1;", strings.Repeat("cap 1;", 1000), // and others behind it
		"cap 1;;", "cap 1;what;", "cap 1;5;", "cap 1;cap", "cap 1;cap 5%;", "cap 1;cap 1", // those behind it are none
	} {
		wantError(t, forty+s, 240, api.ErrOver)
		wantError(t, forty+"\n\t"+s, 242, api.ErrOver)
		wantError(t, strings.Replace(forty, "cap 1", "category books 5.25%", 1)+s, 255, api.ErrOver)
	}
	for _, s := range []string{ // the 41st is none
		";", "what;", "cap;", "cap 5%;", "5;", "5%;", "cap 1", "cap", "what", "tier 5% 0;", ";cap 1;", "cap 5%;cap 1;", "cap 1 cap 1;", "tax 5",
	} {
		wantError(t, forty+s, 240, api.ErrForm)
		wantError(t, forty+" "+s, 241, api.ErrForm)
	}
	// An earlier one is none: 1st, 2nd, 40th.
	for _, at := range []int{0, 1, 20, 39} {
		l := slices.Repeat([]string{"cap 1;"}, 50)
		l[at] = "cap 1%;"
		wantError(t, strings.Join(l, ""), 6*at, api.ErrForm)
		l[at] = ";"
		wantError(t, strings.Join(l, ""), 6*at, api.ErrForm)
	}
}

// P9.1, layer 8's error.

func TestErrorsOfTokens(t *testing.T) {
	long := longName + "u"
	for _, c := range []struct {
		s    string
		at   int
		want api.Errno
	}{
		{"cap $;", 4, api.ErrForm},
		{"cap 5.5;", 5, api.ErrForm},
		{"Cap 5;", 0, api.ErrForm},
		{"tax 1000001%;", 4, api.ErrOver},
		{"cap 12345678901234567;", 4, api.ErrOver},
		{"category " + long + " 5%;", 9, api.ErrOver},
		{"cap -1;", 4, api.ErrForm},
		{"tax 5.555%;", 5, api.ErrForm},
		{"$", 0, api.ErrForm},
		{"cap 5; $", 7, api.ErrForm},
		// Behind rules that are wrong it comes ahead of them.
		{"what 5; cap 5; $", 15, api.ErrForm},
		{"; $", 2, api.ErrForm},
		{";" + long, 1, api.ErrOver},
		{"cap 5%; tax 1000001%;", 12, api.ErrOver},
		{"cap $ tier", 4, api.ErrForm},
		{"cap 5; cap ?", 11, api.ErrForm},
		{strings.Repeat("cap 1;", 41) + "?", 246, api.ErrForm},
		{strings.Repeat("cap 1;", 41) + long, 246, api.ErrOver},
		{strings.Repeat("cap 1;", 40) + "; 12345678901234567", 242, api.ErrOver},
		{strings.Repeat(";", 100) + "%", 100, api.ErrForm},
		{"5 5 5 5 \r", 8, api.ErrForm},
	} {
		wantError(t, c.s, c.at, c.want)
	}
}

// P9.1 against a model: rules by patterns.

var (
	blanks   = regexp.MustCompile("^[ \n\t]*")
	patterns = func() *regexp.Regexp {
		b, number, rate := "[ \n\t]*", "([0-9]+)", `([0-9]+(?:\.[0-9]{1,2})?)%`
		return regexp.MustCompile("^(?:" + strings.Join([]string{
			"(tier)" + b + number + "[ \n\t]+" + rate,
			"(category)[ \n\t]+([a-z]+)" + b + rate,
			"(cap|minimum)" + b + number,
			"(tax)" + b + rate,
			"(reserve)" + b + rate + b + number,
		}, "|") + ")" + b + ";")
	}()
)

// modelRule is the one that a pattern's match says.
func modelRule(m []string) api.Rule {
	number := func(s string) int64 {
		n, _ := strconv.ParseInt("0"+s, 10, 64)
		return n
	}
	rate := func(s string) int64 {
		x, _ := new(big.Rat).SetString("0" + s)
		return x.Mul(x, big.NewRat(100, 1)).Num().Int64()
	}
	return api.Rule{
		Kind: m[1] + m[4] + m[7] + m[9] + m[11], Name: m[5],
		N: number(m[2] + m[8] + m[13]), Rate: rate(m[3] + m[6] + m[10] + m[12]),
	}
}

func model(s string) ([]api.Rule, int, api.Errno) {
	if _, at, e := lex.Tokens(s); e != api.OK {
		return nil, at, e
	}
	var l []api.Rule
	for at := len(blanks.FindString(s)); at < len(s); {
		m := patterns.FindStringSubmatch(s[at:])
		if m == nil {
			return nil, at, api.ErrForm
		}
		if len(l) == 40 {
			return nil, at, api.ErrOver
		}
		l = append(l, modelRule(m))
		at += len(m[0])
		at += len(blanks.FindString(s[at:]))
	}
	return l, 0, api.OK
}

func holdAgainstModel(t *testing.T, s string) api.Errno {
	t.Helper()
	l, at, e := Parse(s)
	want, wantAt, wantE := model(s)
	if !slices.Equal(l, want) || at != wantAt || e != wantE {
		t.Fatalf("Parse(%q) = %v, %d, %d, want %v, %d, %d", s, l, at, e, want, wantAt, wantE)
	}
	return e
}

// TestEachShortPlan goes through each plan of up to five words of some sorts.
func TestEachShortPlan(t *testing.T) {
	words := []string{"tier ", "category ", "cap ", "minimum ", "tax ", "reserve ", "what ", "7 ", "2.5% ", ";"}
	var all func(s string, left int)
	all = func(s string, left int) {
		holdAgainstModel(t, s)
		for i := 0; left > 0 && i < len(words); i++ {
			all(s+words[i], left-1)
		}
	}
	all("", 5)
}

func TestRandomPlansAgainstModel(t *testing.T) {
	r := rand.New(rand.NewPCG(9, 1))
	rules := []string{"tier 0 2.9%;", "tier 1000 7%;", "category books 0.05%;", "cap 500;", "minimum 3 ;", "tax\n19.5%;\n", "reserve 10%\t30;", "cap " + strconv.Itoa(mostNumber) + ";", "tax 1000000.99%;", "category tier 1%;"}
	pieces := []string{";", "cap ", "tier ", "5 ", "5% ", "what ", "category ", "category x ", "reserve 1% ", " ", "\n", "$", longName, "x", "1000001%"}
	errors := map[api.Errno]int{}
	for range 30000 {
		var l []string
		most := 10
		if r.IntN(2) == 0 {
			most = 80
		}
		for range r.IntN(most) {
			l = append(l, rules[r.IntN(len(rules))])
		}
		for range r.IntN(3) {
			at := r.IntN(len(l) + 1)
			l = slices.Insert(l, at, pieces[r.IntN(len(pieces))])
		}
		errors[holdAgainstModel(t, strings.Join(l, ""))]++
	}
	for _, e := range []api.Errno{api.OK, api.ErrForm, api.ErrOver} {
		if errors[e] < 1000 {
			t.Errorf("only %d texts of error %d", errors[e], e)
		}
	}
}

// P9.2, texts.

func TestShownRules(t *testing.T) {
	wantText(t, "tier 0 2.90%;\ncap 500;\n", api.Rule{Kind: "tier", Rate: 290}, api.Rule{Kind: "cap", N: 500})
	wantText(t, "tier 7 1.50%;\n", api.Rule{Kind: "tier", N: 7, Rate: 150})
	wantText(t, "category books 4.05%;\n", api.Rule{Kind: "category", Name: "books", Rate: 405})
	wantText(t, "cap 500;\n", api.Rule{Kind: "cap", N: 500})
	wantText(t, "minimum 3;\n", api.Rule{Kind: "minimum", N: 3})
	wantText(t, "tax 19%;\n", api.Rule{Kind: "tax", Rate: 1900})
	wantText(t, "reserve 10% 30;\n", api.Rule{Kind: "reserve", N: 30, Rate: 1000})
	wantText(t, "tier 0 0%;\n", api.Rule{Kind: "tier"})
	wantText(t, "cap 0;\n", api.Rule{Kind: "cap"})
	wantText(t, "minimum 0;\n", api.Rule{Kind: "minimum"})
	wantText(t, "tax 0%;\n", api.Rule{Kind: "tax"})
	wantText(t, "reserve 0% 0;\n", api.Rule{Kind: "reserve"})
	wantText(t, "category a 0%;\n", api.Rule{Kind: "category", Name: "a"})
	wantText(t, "category "+longName+" 0.01%;\n", api.Rule{Kind: "category", Name: longName, Rate: 1})
	// Neither sound, nor in order: they are shown as they are.
	wantText(t, "reserve 0.99% 5;\ncap 1;\ncap 1;\ntier 9 1%;\ntier 2 1%;\n",
		api.Rule{Kind: "reserve", N: 5, Rate: 99}, api.Rule{Kind: "cap", N: 1}, api.Rule{Kind: "cap", N: 1}, api.Rule{Kind: "tier", N: 9, Rate: 100}, api.Rule{Kind: "tier", N: 2, Rate: 100})
}

func TestTheEmptyPlan(t *testing.T) {
	wantText(t, "")
	wantText(t, "", []api.Rule{}...)
	wantText(t, "", make([]api.Rule, 0, 5)...)
}

func TestShownRates(t *testing.T) {
	for _, c := range []struct {
		rate api.Rate
		want string
	}{
		{0, "0%"}, {1, "0.01%"}, {5, "0.05%"}, {9, "0.09%"}, {10, "0.10%"}, {50, "0.50%"}, {99, "0.99%"}, {100, "1%"}, {101, "1.01%"}, {110, "1.10%"}, {290, "2.90%"},
		{999, "9.99%"}, {1000, "10%"}, {1001, "10.01%"}, {3333, "33.33%"}, {9999, "99.99%"}, {10000, "100%"}, {10001, "100.01%"}, {123456, "1234.56%"}, {1000000, "10000%"},
		{99999999, "999999.99%"}, {100000000, "1000000%"}, {100000001, "1000000.01%"}, {mostRate, "1000000.99%"},
	} {
		wantText(t, "tax "+c.want+";\n", api.Rule{Kind: "tax", Rate: c.rate})
		wantText(t, "tier 1 "+c.want+";\n", api.Rule{Kind: "tier", N: 1, Rate: c.rate})
		wantText(t, "category x "+c.want+";\n", api.Rule{Kind: "category", Name: "x", Rate: c.rate})
		wantText(t, "reserve "+c.want+" 1;\n", api.Rule{Kind: "reserve", N: 1, Rate: c.rate})
	}
	for rate := range api.Rate(20000) {
		wantText(t, "tax "+percentModel(rate)+";\n", api.Rule{Kind: "tax", Rate: rate})
	}
}

func percentModel(rate api.Rate) string {
	if rate%100 == 0 {
		return fmt.Sprintf("%d%%", rate/100)
	}
	return fmt.Sprintf("%d.%02d%%", rate/100, rate%100)
}

func TestShownNumbers(t *testing.T) {
	for _, n := range []int64{0, 1, 9, 10, 1000, 1 << 31, 1 << 32, api.MaxAmount, api.MaxAmount + 1, 999999999999999, 1000000000000000, mostNumber} {
		s := strconv.FormatInt(n, 10)
		wantText(t, "cap "+s+";\n", api.Rule{Kind: "cap", N: n})
		wantText(t, "minimum "+s+";\n", api.Rule{Kind: "minimum", N: n})
		wantText(t, "tier "+s+" 1%;\n", api.Rule{Kind: "tier", N: n, Rate: 100})
		wantText(t, "reserve 1% "+s+";\n", api.Rule{Kind: "reserve", N: n, Rate: 100})
	}
}

// P9.2, what no text says.

// right is a rule of a kind, with all parts that it has.
func right(kind string) api.Rule {
	r := api.Rule{Kind: kind}
	for _, p := range kinds[kind] {
		switch p {
		case 'T':
			r.Name = "books"
		case 'N':
			r.N = 5
		case 'R':
			r.Rate = 290
		}
	}
	return r
}

// wantNone holds that no text says a rule, wherever it stands.
func wantNone(t *testing.T, r api.Rule) {
	t.Helper()
	wantNoText(t, r)
	wantNoText(t, r, right("cap"))
	wantNoText(t, right("tier"), r)
	wantNoText(t, right("tier"), r, right("cap"))
	wantNoText(t, r, r)
}

func TestPartsThatAKindHasNot(t *testing.T) {
	for k, parts := range kinds {
		if !strings.Contains(parts, "T") {
			for _, name := range []string{"x", "books", k, " ", ";", "5", "5%", longName} {
				r := right(k)
				r.Name = name
				wantNone(t, r)
			}
		}
		for _, n := range []int64{1, -1, 5, 100, mostNumber, math.MaxInt64, math.MinInt64} {
			if r := right(k); !strings.Contains(parts, "N") {
				r.N = n
				wantNone(t, r)
			}
			if r := right(k); !strings.Contains(parts, "R") {
				r.Rate = n
				wantNone(t, r)
			}
		}
	}
}

func TestNumbersThatNoTokenSays(t *testing.T) {
	for k, parts := range kinds {
		if !strings.Contains(parts, "N") {
			continue
		}
		for _, n := range []int64{-1, -5, -mostNumber, math.MinInt64, math.MinInt64 + 1, mostNumber + 1, mostNumber + 2, 12345678901234567, math.MaxInt64} {
			r := right(k)
			r.N = n
			wantNone(t, r)
		}
	}
}

func TestRatesThatNoTokenSays(t *testing.T) {
	for k, parts := range kinds {
		if !strings.Contains(parts, "R") {
			continue
		}
		for _, n := range []int64{mostRate + 1, mostRate + 2, mostRate + 100, mostRate + 101, 1 << 31, 1 << 32, math.MaxInt64, math.MaxInt64 - 7, math.MinInt64, math.MinInt64 + 8} {
			r := right(k)
			r.Rate = n
			wantNone(t, r)
		}
		for n := range int64(1100) {
			r := right(k)
			r.Rate = -1 - n
			wantNone(t, r)
		}
	}
}

func TestNamesThatAreNone(t *testing.T) {
	for _, name := range []string{
		"", " ", "A", "Books", "a b", " a", "a ", "a\n", "\ta", "a1", "1", "5%", ";", "a;", ";a", "a.", "-", "_", "\xff", "\u00e9", "\x00", longName + "u", strings.Repeat("a", 1000),
		"a 5%; category b", "a 2.90%;\ncategory a", "a 5%; cap 5; category b", "5 a", "a 5%", "a 5%;", "\u00a0a",
	} {
		wantNone(t, api.Rule{Kind: "category", Name: name, Rate: 290})
		wantNone(t, api.Rule{Kind: "category", Name: name, Rate: 500})
	}
	for c := range 256 {
		name := string([]byte{byte(c)})
		r := api.Rule{Kind: "category", Name: name, Rate: 100}
		if name >= "a" && name <= "z" {
			wantText(t, "category "+name+" 1%;\n", r)
		} else {
			wantNone(t, r)
		}
	}
}

func TestKindsThatNoTextSays(t *testing.T) {
	for _, k := range []string{"", " ", "what", "Tier", "CAP", "tier ", " cap", "cap\n", "cap 5", "cap 5;", "cap 5; cap", "tier 0 5%", "tier 0 5%; cap", ";", "cap;", "5", "5%", "$", "\xff", longName, longName + "u"} {
		wantNone(t, api.Rule{Kind: k})
		wantNone(t, api.Rule{Kind: k, N: 5})
		wantNone(t, api.Rule{Kind: k, Rate: 500})
		wantNone(t, api.Rule{Kind: k, Name: "x", N: 5, Rate: 500})
	}
	wantNone(t, api.Rule{})
}

func TestShowOfFortyRulesAndMore(t *testing.T) {
	for _, k := range sortedKinds() {
		line, _ := Show(right(k))
		for _, n := range []int{1, 2, 39, 40} {
			wantText(t, strings.Repeat(line, n), slices.Repeat([]api.Rule{right(k)}, n)...)
		}
		for _, n := range []int{41, 42, 80, 81, 1000} {
			wantNoText(t, slices.Repeat([]api.Rule{right(k)}, n)...)
		}
		l := slices.Repeat([]api.Rule{right(k)}, 40)
		l[39].Rate = -1
		wantNoText(t, l...)
	}
}

// P9.2 against a model: what each part may be.

var namePattern = regexp.MustCompile("^[a-z]{1,20}$")

// lineModel is a rule's text; false, if no text says it.
func lineModel(r api.Rule) (string, bool) {
	parts := kinds[r.Kind]
	texts := map[rune]string{'T': r.Name, 'N': strconv.FormatInt(r.N, 10), 'R': percentModel(r.Rate)}
	rights := map[rune]bool{'T': namePattern.MatchString(r.Name), 'N': r.N >= 0 && r.N <= mostNumber, 'R': r.Rate >= 0 && r.Rate <= mostRate}
	empties := map[rune]bool{'T': r.Name == "", 'N': r.N == 0, 'R': r.Rate == 0}
	for _, p := range "TNR" {
		has := strings.ContainsRune(parts, p)
		if has && !rights[p] || !has && !empties[p] {
			return "", false
		}
	}
	s := r.Kind
	for _, p := range parts {
		s += " " + texts[p]
	}
	return s + ";\n", parts != ""
}

func TestRandomRulesAgainstModel(t *testing.T) {
	r := rand.New(rand.NewPCG(9, 2))
	numbers := []int64{0, 0, 1, 5, 290, 1000, mostRate, mostRate + 1, mostNumber, mostNumber + 1, -1, -100, math.MaxInt64, math.MinInt64}
	names := []string{"", "a", "books", longName, longName + "u", "A", "a b", "a;", "5"}
	all := append(sortedKinds(), "what", "")
	said := 0
	for range 60000 {
		var l []api.Rule
		n := r.IntN(4)
		if r.IntN(8) == 0 {
			n = 38 + r.IntN(5)
		}
		for range n {
			x := right(sortedKinds()[r.IntN(6)])
			if r.IntN(4*n) == 0 {
				x.Kind = all[r.IntN(len(all))]
				x.Name, x.N, x.Rate = names[r.IntN(len(names))], numbers[r.IntN(len(numbers))], numbers[r.IntN(len(numbers))]
			}
			l = append(l, x)
		}
		want, ok := "", n <= 40
		for _, x := range l {
			line, says := lineModel(x)
			want, ok = want+line, ok && says
		}
		if ok {
			said++
			wantText(t, want, l...)
		} else {
			wantNoText(t, l...)
		}
	}
	if said < 10000 || said > 58000 {
		t.Errorf("%d lists are said by a text", said)
	}
}

// What is shown is read as it was, and shown once more alike; what is read is shown, if not by the same text.
func TestShownAndReadOnceMore(t *testing.T) {
	for _, c := range []struct{ s, want string }{
		{"tier 0 2.9%; cap 500;", "tier 0 2.90%;\ncap 500;\n"},
		{"tier 00 02.90%;\tcap\n0500;", "tier 0 2.90%;\ncap 500;\n"},
		{"tax 5.00%;tax 5.0%;tax 5%;", "tax 5%;\ntax 5%;\ntax 5%;\n"},
		{"reserve0.1%7;", "reserve 0.10% 7;\n"},
		{" \n", ""},
	} {
		l, _, e := Parse(c.s)
		if e != api.OK {
			t.Fatalf("Parse(%q): %d", c.s, e)
		}
		s, e := Show(l...)
		if e != api.OK || s != c.want {
			t.Errorf("of %q is shown %q, %d, want %q", c.s, s, e, c.want)
		}
		wantText(t, s, l...)
	}
}

// P1 and P2.

func TestLongPlans(t *testing.T) {
	n := 1 << 18
	wantRules(t, strings.Repeat(" ", n))
	wantRules(t, strings.Repeat("\n", n)+"cap"+strings.Repeat(" ", n)+"5"+strings.Repeat("\t", n)+";", api.Rule{Kind: "cap", N: 5})
	wantError(t, strings.Repeat(";", n), 0, api.ErrForm)
	wantError(t, strings.Repeat("cap ", n), 0, api.ErrForm)
	wantError(t, strings.Repeat("cap ", n)+";", 0, api.ErrForm)
	wantError(t, strings.Repeat("cap 5;", n), 240, api.ErrOver)
	wantError(t, strings.Repeat("cap 5;", n)+"$", 6*n, api.ErrForm)
	wantError(t, strings.Repeat("5", n), 0, api.ErrOver)
	wantNoText(t, slices.Repeat([]api.Rule{{Kind: "cap", N: 5}}, n)...)
	wantNoText(t, api.Rule{Kind: "category", Name: strings.Repeat("a", n), Rate: 5})
	wantNoText(t, api.Rule{Kind: strings.Repeat("cap ", n), N: 5})
}

func TestAnswersAreApart(t *testing.T) {
	s := "tier 0 2.9%; cap 500;"
	first, _, _ := Parse(s)
	for i := range first {
		first[i] = api.Rule{Kind: "changed", N: 7}
	}
	wantRules(t, s, api.Rule{Kind: "tier", Rate: 290}, api.Rule{Kind: "cap", N: 500})
	wantError(t, "cap;", 0, api.ErrForm)
	wantRules(t, s, api.Rule{Kind: "tier", Rate: 290}, api.Rule{Kind: "cap", N: 500})
}

// Show reads no more than a list's length, and changes nothing of it.
func TestShownListsStay(t *testing.T) {
	l := []api.Rule{{Kind: "tier", Rate: 290}, {Kind: "cap", N: 500}, {Kind: "what"}}
	kept := slices.Clone(l)
	wantText(t, "tier 0 2.90%;\ncap 500;\n", l[:2]...)
	wantNoText(t, l...)
	if !slices.Equal(l, kept) {
		t.Errorf("the list is %v, want %v", l, kept)
	}
	s, _ := Show(l[:2]...)
	l[0].Kind = "what"
	if s != "tier 0 2.90%;\ncap 500;\n" {
		t.Errorf("the text is %q", s)
	}
}
