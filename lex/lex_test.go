package lex

import (
	"math/big"
	"math/rand/v2"
	"regexp"
	"slices"
	"strings"
	"testing"

	"souk/api"
)

// mostSixteen is the greatest number of sixteen figures.
const mostSixteen = 9999999999999999

// of is a token, wherever it begins.
func of(kind Kind, text string, n int64) Token {
	return Token{Kind: kind, Text: text, N: n}
}

func at(place int, t Token) Token {
	t.At = place
	return t
}

// wantTokens holds what Tokens answers of a text that has no error.
func wantTokens(t *testing.T, s string, want ...Token) {
	t.Helper()
	l, place, e := Tokens(s)
	if e != api.OK || place != 0 || !slices.Equal(l, want) {
		t.Errorf("Tokens(%q) = %#v, %d, %d, want %#v", s, l, place, e, want)
	}
}

// wantError holds what Tokens answers of a text that has one.
func wantError(t *testing.T, s string, place int, want api.Errno) {
	t.Helper()
	l, p, e := Tokens(s)
	if len(l) != 0 || p != place || e != want {
		t.Errorf("Tokens(%q) = %#v, %d, %d, want none, %d, %d", s, l, p, e, place, want)
	}
}

// letters is a name of so many letters.
func letters(n int) string {
	return strings.Repeat("abcdefghijklmnopqrstuvwxyz", n/26+1)[:n]
}

// figures is a number of so many figures.
func figures(n int) string {
	return strings.Repeat("1234567890", n/10+1)[:n]
}

// P8.1, the kinds.

func TestKindsRise(t *testing.T) {
	for want, k := range []Kind{Name, Number, Rate, End} {
		if int(k) != want {
			t.Errorf("kind %d, want %d", k, want)
		}
	}
	if MostDigits != 16 || api.MaxName != 20 {
		t.Errorf("the most figures are %d, the most letters %d", MostDigits, api.MaxName)
	}
}

// P8.1, each token.

func TestTokensOfTheExample(t *testing.T) {
	wantTokens(t, "tier 0 2.9%;",
		Token{Name, "tier", 0, 0}, Token{Number, "0", 0, 5}, Token{Rate, "2.9%", 290, 7}, Token{End, ";", 0, 11})
}

func TestTokensOfPlans(t *testing.T) {
	wantTokens(t, "tier 0 2.9%; cap 500;",
		Token{Name, "tier", 0, 0}, Token{Number, "0", 0, 5}, Token{Rate, "2.9%", 290, 7}, Token{End, ";", 0, 11},
		Token{Name, "cap", 0, 13}, Token{Number, "500", 500, 17}, Token{End, ";", 0, 20})
	wantTokens(t, "\treserve 12.05%\n\n30\n;\n",
		Token{Name, "reserve", 0, 1}, Token{Rate, "12.05%", 1205, 9}, Token{Number, "30", 30, 17}, Token{End, ";", 0, 20})
	// No order of tokens is asked for here.
	wantTokens(t, "; 3 tax;; 1% 2 minimum",
		Token{End, ";", 0, 0}, Token{Number, "3", 3, 2}, Token{Name, "tax", 0, 4}, Token{End, ";", 0, 7}, Token{End, ";", 0, 8},
		Token{Rate, "1%", 100, 10}, Token{Number, "2", 2, 13}, Token{Name, "minimum", 0, 15})
}

func TestNames(t *testing.T) {
	for n := 1; n <= api.MaxName; n++ {
		s := letters(n)
		wantTokens(t, s, of(Name, s, 0))
		wantTokens(t, " "+s+" "+s, at(1, of(Name, s, 0)), at(n+2, of(Name, s, 0)))
	}
	for c := byte('a'); c <= 'z'; c++ {
		wantTokens(t, string(c), of(Name, string(c), 0))
	}
	for _, n := range []int{api.MaxName + 1, api.MaxName + 2, 2 * api.MaxName, 26, 52, 255, 256, 1000, 1 << 16} {
		s := letters(n)
		wantError(t, s, 0, api.ErrOver)
		wantError(t, "1 "+s+" 1", 2, api.ErrOver)
	}
}

func TestNumbers(t *testing.T) {
	for _, c := range []struct {
		s string
		n int64
	}{
		{"0", 0}, {"1", 1}, {"9", 9}, {"10", 10}, {"500", 500}, {"00", 0}, {"007", 7}, {"1000000", 1000000}, {"1000001", 1000001},
		{"2147483647", 2147483647}, {"4294967296", 4294967296}, {"1125899906842624", api.MaxAmount}, {"1125899906842625", api.MaxAmount + 1},
		{"9999999999999999", mostSixteen}, {"1000000000000000", 1000000000000000}, {"0000000000000000", 0}, {"0000000000000001", 1},
		{"1234567890123456", 1234567890123456},
	} {
		wantTokens(t, c.s, of(Number, c.s, c.n))
		wantTokens(t, "\n"+c.s+";", at(1, of(Number, c.s, c.n)), at(1+len(c.s), of(End, ";", 0)))
	}
	for n := 1; n <= MostDigits; n++ {
		s := figures(n)
		worth, _ := new(big.Int).SetString(s, 10)
		wantTokens(t, s, of(Number, s, worth.Int64()))
	}
	for _, s := range []string{
		"12345678901234567", "99999999999999999", "00000000000000000", "00000000000000001", "9223372036854775807", "9223372036854775808",
		"18446744073709551616", "18446744073709551617", figures(64), figures(1000),
	} {
		wantError(t, s, 0, api.ErrOver)
		wantError(t, "; "+s+";", 2, api.ErrOver)
	}
}

func TestRates(t *testing.T) {
	for _, c := range []struct {
		s string
		n int64
	}{
		{"0%", 0}, {"1%", 100}, {"12%", 1200}, {"100%", 10000}, {"101%", 10100}, {"012%", 1200}, {"999999%", 99999900},
		{"0.0%", 0}, {"0.1%", 10}, {"0.5%", 50}, {"0.9%", 90}, {"2.9%", 290}, {"10.1%", 1010}, {"100.0%", 10000}, {"00.7%", 70},
		{"0.00%", 0}, {"0.01%", 1}, {"0.05%", 5}, {"0.10%", 10}, {"0.50%", 50}, {"0.99%", 99}, {"3.25%", 325}, {"99.99%", 9999}, {"33.33%", 3333},
	} {
		wantTokens(t, c.s, of(Rate, c.s, c.n))
		wantTokens(t, "a\t"+c.s+"b", of(Name, "a", 0), at(2, of(Rate, c.s, c.n)), at(2+len(c.s), of(Name, "b", 0)))
	}
}

func TestRatesOfManyFigures(t *testing.T) {
	for _, end := range []string{"%", ".5%", ".05%"} {
		n := int64(len(end)/3) * 5
		if len(end) == 3 {
			n *= 10
		}
		s := strings.Repeat("0", MostDigits-1) + "7" + end
		wantTokens(t, s, of(Rate, s, 700+n))
		s = strings.Repeat("0", MostDigits-7) + "1000000" + end
		wantTokens(t, s, of(Rate, s, 100000000+n))
		wantError(t, "0"+s, 0, api.ErrOver)
		wantError(t, "a "+strings.Repeat("0", MostDigits+1)+end, 2, api.ErrOver)
		wantError(t, figures(MostDigits)+end, 0, api.ErrOver)
		wantError(t, figures(MostDigits+1)+end, 0, api.ErrOver)
		// These would be small ones, if they ran over.
		wantError(t, "18446744073709551617"+end, 0, api.ErrOver)
		wantError(t, "184467440737095517"+end, 0, api.ErrOver)
	}
}

func TestRatesAtTheMostAheadOfThePoint(t *testing.T) {
	for _, c := range []struct {
		s string
		n int64
	}{
		{"1000000%", 100000000}, {"1000000.0%", 100000000}, {"1000000.9%", 100000090}, {"1000000.01%", 100000001}, {"1000000.99%", 100000099},
		{"0001000000%", 100000000}, {"999999.99%", 99999999},
	} {
		wantTokens(t, c.s, of(Rate, c.s, c.n))
	}
	for _, s := range []string{
		"1000001%", "1000001.0%", "1000001.00%", "1000001.99%", "1000002%", "1000100%", "2000000%", "10000000%", "9999999999999999%",
		"9999999999999999.99%", "4294967296%", "4294967297.5%", "0001000001%",
	} {
		wantError(t, s, 0, api.ErrOver)
		wantError(t, "tier 0 "+s+";", 7, api.ErrOver)
	}
}

func TestWhatIsNoRateIsANumber(t *testing.T) {
	for _, c := range []struct {
		s  string
		at int // where the first one begins that is none, behind the number
	}{
		{"1.5", 1}, {"1.555%", 1}, {"1.", 1}, {"1.%", 1}, {"1.;", 1}, {"1 %", 2}, {"1.5 %", 1}, {"1. 5%", 1}, {"1 .5%", 2}, {"1.5;", 1}, {"1.55", 1},
		{"1.55a%", 1}, {"1.5a%", 1}, {"1..5%", 1}, {"1.5.5%", 1}, {"12.345%", 2}, {"1.0000%", 1}, {"1.\n%", 1}, {"1,5%", 1}, {"1;%", 2}, {"1a%", 2},
		{"1.+5%", 1}, {"1.-5%", 1}, {"1.a%", 1}, {"1.5\x00%", 1}, {"1:%", 1}, {"1/%", 1}, {"1.5/%", 1}, {"1.5:%", 1},
		{"1." + figures(50) + "%", 1},
		// What is no rate may be more ahead of its point.
		{"1000001.5", 7}, {"1000001.555%", 7}, {"1000001.%", 7}, {"1000001 %", 8}, {"9999999999999999.", 16},
		// Behind a rate stands what doesn't belong to it.
		{"5%%", 2}, {"1.5%%", 4}, {"1.5%.5%", 4}, {"5%.", 2},
	} {
		wantError(t, c.s, c.at, api.ErrForm)
	}
	wantError(t, "12345678901234567.5", 0, api.ErrOver)
	wantError(t, "12345678901234567.555%", 0, api.ErrOver)
	wantError(t, "12345678901234567 %", 0, api.ErrOver)
}

func TestAPointOrAPercentAlone(t *testing.T) {
	for _, s := range []string{".", "%", ".5", ".5%", ".%", "%.", "%5", "..", "%%"} {
		wantError(t, s, 0, api.ErrForm)
		wantError(t, " "+s, 1, api.ErrForm)
		wantError(t, "tier "+s, 5, api.ErrForm)
		wantError(t, "tier"+s, 4, api.ErrForm)
		wantError(t, ";"+s, 1, api.ErrForm)
	}
}

// Tokens that have no blanks between end where the next one begins.
func TestTokensWithoutBlanks(t *testing.T) {
	wantTokens(t, "a1b2", of(Name, "a", 0), at(1, of(Number, "1", 1)), at(2, of(Name, "b", 0)), at(3, of(Number, "2", 2)))
	wantTokens(t, "tier0 2.9%;cap500;", of(Name, "tier", 0), at(4, of(Number, "0", 0)), at(6, of(Rate, "2.9%", 290)), at(10, of(End, ";", 0)),
		at(11, of(Name, "cap", 0)), at(14, of(Number, "500", 500)), at(17, of(End, ";", 0)))
	wantTokens(t, "1%2.5%3", of(Rate, "1%", 100), at(2, of(Rate, "2.5%", 250)), at(6, of(Number, "3", 3)))
	wantTokens(t, "5%a;;", of(Rate, "5%", 500), at(2, of(Name, "a", 0)), at(3, of(End, ";", 0)), at(4, of(End, ";", 0)))
	// A name and a number as long as may be, that aren't longer together.
	wantTokens(t, letters(20)+figures(16)+letters(20), of(Name, letters(20), 0), at(20, of(Number, figures(16), 1234567890123456)), at(36, of(Name, letters(20), 0)))
	wantTokens(t, letters(20)+" "+letters(20), of(Name, letters(20), 0), at(21, of(Name, letters(20), 0)))
	wantTokens(t, figures(16)+"\n"+figures(16), of(Number, figures(16), 1234567890123456), at(17, of(Number, figures(16), 1234567890123456)))
}

// P8.1, blanks.

func TestBlanks(t *testing.T) {
	for _, s := range []string{"", " ", "\n", "\t", "  ", " \n\t \n\t", strings.Repeat(" \n\t", 1000)} {
		wantTokens(t, s)
		n := len(s)
		wantTokens(t, s+"cap"+s, at(n, of(Name, "cap", 0)))
		wantTokens(t, s+";"+s+"0.5%"+s, at(n, of(End, ";", 0)), at(2*n+1, of(Rate, "0.5%", 50)))
		wantError(t, s+"?"+s, n, api.ErrForm)
		wantError(t, s+letters(21)+s, n, api.ErrOver)
	}
	// Blanks part what would be one token, or one that is wrong.
	wantTokens(t, "ab c\nd\te", of(Name, "ab", 0), at(3, of(Name, "c", 0)), at(5, of(Name, "d", 0)), at(7, of(Name, "e", 0)))
	wantTokens(t, "1 2", of(Number, "1", 1), at(2, of(Number, "2", 2)))
	// What other texts hold for blanks.
	for _, s := range []string{"\r", "\v", "\f", "\x00", "\x1f", "!", "\x7f", "\u0085", "\u00a0", "\u2003", "\ufeff", "\r\n"} {
		wantError(t, s, 0, api.ErrForm)
		wantError(t, "a "+s+" b", 2, api.ErrForm)
	}
}

// P8.1, bytes.

func TestEachByteAlone(t *testing.T) {
	for c := range 256 {
		s := string([]byte{byte(c)})
		switch {
		case strings.Contains(" \n\t", s):
			wantTokens(t, s)
		case s == ";":
			wantTokens(t, s, of(End, s, 0))
		case strings.Contains("abcdefghijklmnopqrstuvwxyz", s):
			wantTokens(t, s, of(Name, s, 0))
		case strings.Contains("0123456789", s):
			wantTokens(t, s, of(Number, s, int64(c-'0')))
		default:
			wantError(t, s, 0, api.ErrForm)
			wantError(t, "tier"+s, 4, api.ErrForm)
			wantError(t, "500;"+s+"x", 4, api.ErrForm)
		}
	}
}

func TestOtherLettersAndSigns(t *testing.T) {
	for _, s := range []string{"A", "Z", "tierA", "\u00e9", "e\u0301", "\u0660", "\uff11", "_", "-1", "+1", "1e5", "0x1", "a-b", "\xff", "a\xff", "#", "'a'", "`", "{", "@", "[", "/", ":", ","} {
		l, place, e := Tokens(s)
		want, wantAt, wantE := model(s)
		if !slices.Equal(l, want) || place != wantAt || e != wantE {
			t.Errorf("Tokens(%q) = %#v, %d, %d, want %#v, %d, %d", s, l, place, e, want, wantAt, wantE)
		}
	}
	wantError(t, "tierA", 4, api.ErrForm)
	wantError(t, "-1", 0, api.ErrForm)
	wantError(t, "caf\u00e9", 3, api.ErrForm)
	wantError(t, "1e5.", 3, api.ErrForm)
	wantTokens(t, "1e5", of(Number, "1", 1), at(1, of(Name, "e", 0)), at(2, of(Number, "5", 5)))
}

// P8.1, which error.

func TestTheFirstWrongOneDecides(t *testing.T) {
	for _, c := range []struct {
		s    string
		at   int
		want api.Errno
	}{
		{letters(21) + " ?", 0, api.ErrOver},
		{"? " + letters(21), 0, api.ErrForm},
		{letters(21) + "?", 0, api.ErrOver},
		{letters(20) + "?" + letters(21), 20, api.ErrForm},
		{figures(17) + "?", 0, api.ErrOver},
		{"a ? " + figures(17), 2, api.ErrForm},
		{"a " + figures(17) + " ?", 2, api.ErrOver},
		{"1000001% " + letters(21), 0, api.ErrOver},
		{letters(20) + " 1000001% ?", 21, api.ErrOver},
		{"1000000% 1000001%", 9, api.ErrOver},
		{"tier 0 2.9%; cap 5.5;", 18, api.ErrForm},
		{"tier 0 2.9%; cap 500; Tax", 22, api.ErrForm},
		{strings.Repeat("a ", 1000) + "?", 2000, api.ErrForm},
		{strings.Repeat("; ", 1000) + letters(21), 2000, api.ErrOver},
	} {
		wantError(t, c.s, c.at, c.want)
	}
}

// P8.1 against a model: tokens by a pattern, their numbers by fractions of any size.

var (
	tokenPattern = regexp.MustCompile(`^(?:([a-z]+)|([0-9]+)(\.[0-9]{1,2})?%|([0-9]+)|(;))`)
	blankPattern = regexp.MustCompile("^[ \n\t]*")
)

func model(s string) ([]Token, int, api.Errno) {
	var l []Token
	place := len(blankPattern.FindString(s))
	for place < len(s) {
		m := tokenPattern.FindStringSubmatch(s[place:])
		if m == nil {
			return nil, place, api.ErrForm
		}
		t := Token{Text: m[0], At: place}
		ahead := m[2] + m[4]
		over := len(m[1]) > 20 || len(ahead) > 16
		switch {
		case m[1] != "":
			t.Kind = Name
		case m[2] != "":
			t.Kind = Rate
			x, _ := new(big.Rat).SetString(m[2] + m[3])
			t.N = x.Mul(x, big.NewRat(100, 1)).Num().Int64()
			n, _ := new(big.Int).SetString(m[2], 10)
			over = over || n.Cmp(big.NewInt(1000000)) > 0
		case m[4] != "":
			t.Kind = Number
			n, _ := new(big.Int).SetString(m[4], 10)
			t.N = n.Int64()
		default:
			t.Kind = End
		}
		if over {
			return nil, place, api.ErrOver
		}
		l = append(l, t)
		place += len(m[0])
		place += len(blankPattern.FindString(s[place:]))
	}
	return l, 0, api.OK
}

func holdAgainstModel(t *testing.T, s string) {
	t.Helper()
	l, place, e := Tokens(s)
	want, wantAt, wantE := model(s)
	if !slices.Equal(l, want) || place != wantAt || e != wantE {
		t.Fatalf("Tokens(%q) = %#v, %d, %d, want %#v, %d, %d", s, l, place, e, want, wantAt, wantE)
	}
}

// TestEachShortText goes through each text of up to six bytes of one of each sort.
func TestEachShortText(t *testing.T) {
	sorts := "a0.%; ?5"
	var all func(s string, left int)
	all = func(s string, left int) {
		holdAgainstModel(t, s)
		for i := 0; left > 0 && i < len(sorts); i++ {
			all(s+sorts[i:i+1], left-1)
		}
	}
	all("", 6)
}

func TestEachTwoBytes(t *testing.T) {
	for i := range 1 << 16 {
		holdAgainstModel(t, string([]byte{byte(i >> 8), byte(i)}))
	}
}

func TestRandomTextsAgainstModel(t *testing.T) {
	r := rand.New(rand.NewPCG(8, 1))
	pieces := []string{" ", "\n", "\t", ";", ".", "%", "a", "tier", "category", letters(19), letters(20), "0", "1", "29", "500", "1000000", "1000001", figures(15), figures(16), ".5%", ".25%", ".255%", "%;", "; "}
	right := []string{" ", " ", "\n", "\t", ";", "tier ", "cap ", "0 ", "12 ", "2.9% ", "0.05%", "7%", "1000000.99% ", figures(16) + " ", letters(20) + ";"}
	errors := map[api.Errno]int{}
	for i := range 60000 {
		from := pieces
		if i%2 == 0 {
			from = right
		}
		var b strings.Builder
		for range r.IntN(12) {
			b.WriteString(from[r.IntN(len(from))])
		}
		s := b.String()
		if r.IntN(8) == 0 && s != "" { // a byte of any kind somewhere
			at := r.IntN(len(s))
			s = s[:at] + string([]byte{byte(r.IntN(256))}) + s[at+1:]
		}
		holdAgainstModel(t, s)
		_, _, e := Tokens(s)
		errors[e]++
	}
	for _, e := range []api.Errno{api.OK, api.ErrForm, api.ErrOver} {
		if errors[e] < 1000 {
			t.Errorf("only %d texts of error %d", errors[e], e)
		}
	}
}

// A token's bytes are those that stand where it begins; between tokens there are only blanks.
func TestTokensCoverTheText(t *testing.T) {
	r := rand.New(rand.NewPCG(8, 2))
	right := []string{" ", "\n", "\t\t", ";", "tier ", "cap\n", "0 ", "12\t", "2.9%", "0.05%"}
	for range 5000 {
		var b strings.Builder
		for range r.IntN(30) {
			b.WriteString(right[r.IntN(len(right))])
		}
		s := b.String()
		l, _, e := Tokens(s)
		if e != api.OK {
			t.Fatalf("Tokens(%q): %d", s, e)
		}
		end := 0
		for _, x := range l {
			if x.At < end || strings.Trim(s[end:x.At], " \n\t") != "" || !strings.HasPrefix(s[x.At:], x.Text) || x.Text == "" {
				t.Fatalf("Tokens(%q) = %#v: wrong at %d", s, l, x.At)
			}
			end = x.At + len(x.Text)
		}
		if strings.Trim(s[end:], " \n\t") != "" {
			t.Fatalf("Tokens(%q) = %#v: something is left at %d", s, l, end)
		}
	}
}

// P1 and P2.

func TestLongTexts(t *testing.T) {
	n := 1 << 20
	for _, c := range []struct {
		s    string
		at   int
		want api.Errno
	}{
		{strings.Repeat(" ", n), 0, api.OK},
		{strings.Repeat(";", n), 0, api.OK},
		{strings.Repeat("a", n), 0, api.ErrOver},
		{strings.Repeat("0", n), 0, api.ErrOver},
		{"0." + strings.Repeat("0", n) + "%", 1, api.ErrForm},
		{strings.Repeat("1%", n/2), 0, api.OK},
		{strings.Repeat("\xff", n), 0, api.ErrForm},
		{strings.Repeat("a1", n/2) + ".", n, api.ErrForm},
	} {
		l, place, e := Tokens(c.s)
		if place != c.at || e != c.want || (e != api.OK && len(l) != 0) {
			t.Errorf("Tokens(%q..) = %d tokens, %d, %d, want %d, %d", c.s[:8], len(l), place, e, c.at, c.want)
		}
	}
	if l, _, _ := Tokens(strings.Repeat(";", n)); len(l) != n || l[n-1] != (Token{End, ";", 0, n - 1}) {
		t.Errorf("%d ends of %d", len(l), n)
	}
}

func TestAnswersAreApart(t *testing.T) {
	s := "tier 0 2.9%;"
	first, _, _ := Tokens(s)
	for i := range first {
		first[i] = Token{End, "changed", 7, 7}
	}
	wantTokens(t, s, Token{Name, "tier", 0, 0}, Token{Number, "0", 0, 5}, Token{Rate, "2.9%", 290, 7}, Token{End, ";", 0, 11})
	wantError(t, "1.5", 1, api.ErrForm)
	wantTokens(t, s, Token{Name, "tier", 0, 0}, Token{Number, "0", 0, 5}, Token{Rate, "2.9%", 290, 7}, Token{End, ";", 0, 11})
}
