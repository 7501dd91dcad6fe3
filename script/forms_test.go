package script

import (
	"testing"

	"souk/api"
)

// P23.1: what a line is.

// wrongLines are none.
var wrongLines = []string{
	"", " ", "  ", "\t", "\n", "\x00", "\xff", "-", "0", "1 2", "what", "what 1",
	"choose ", " choose", "choose  1", "choose 1 ", "choose 1  2", "choose 256", "choose 1 256", "choose 256 1", "choose 1000", "choose 01", "choose 00", "choose 1 00", "choose +1", "choose -1", "choose -0", "choose x", "choose 1x", "choose x1", "choose 1 x 2", "choose 1,2", "choose 1.0", "choose 1_0", "choose 0x1", "choose 1e1",
	"choose\t1", "choose 1\t2", "choose 1\n", "choose\n", "Choose 1", "CHOOSE", "choos", "chooses", "choose1", "choose\x00", "choose \xff", "choose \xd9\xa1", "choose 18446744073709551616", "choose 18446744073709551617", "choose 4294967296", "choose 99999999999999999999999999999999999999999",
	"late", "late ", "late  1", "late 1 ", "late 1 2", "late 1001", "late 10000", "late 01", "late 00", "late 0000", "late +1", "late -1", "late x", "late 1x", "late 1 x", "late -", "late\t1", "late 1\n", "Late 1", "LATE 1", "lat 1", "lates 1", "late1", "late 9223372036854775808", "late 18446744073709551616",
	"fail", "fail ", "fail  1", "fail 1 ", "fail 1  2", "fail 1001", "fail 65535", "fail 65536", "fail 01", "fail 00", "fail +1", "fail -1", "fail x", "fail 1 65", "fail 1 64 65", "fail 1 65 64", "fail 1 064", "fail 1 00", "fail 1 +1", "fail 1 -1", "fail 1 x", "fail 1 256", "fail 1001 5", "fail x 5", "fail\t1", "fail 1\t5", "fail 1\n", "Fail 1", "FAIL 1", "fai 1", "fails 1", "fail1", "fail 18446744073709551616",
	"balances ", " balances", "balances  ", "balances EUR", "balances -", "balances\t", "balances\n", "balances\x00", "Balances", "BALANCES", "balance", "balancess", "balances1", "balances\r\n",
	"payouts ", " payouts", "payouts  ", "payouts 1", "payouts\n", "Payouts", "PAYOUTS", "payout", "payoutss", "payouts payouts",
	"totals", " totals EUR", "totals  EUR", "totals EUR ", "totals  ", "totals EUR USD", "totals EUR USD GBP", "totals\tEUR", "totals\n", "Totals EUR", "TOTALS EUR", "total EUR", "totalss EUR", "totalsEUR", "totals\x00EUR",
	"tick ", " tick", "tick  ", "tick 1", "tick t1", "Tick", "TICK", "tic", "ticks", "tick\n", "tick\t", "tick\x00",
	"sale", "sale ", "sale s1", "sale s1 EUR", "sale s1 EUR -", "sale s1 EUR - 1000", "sale s1 EUR - 1000 ", "sale s1 EUR - 1000 ann", "sale s1 EUR - 1000 ann:", "sale s1 EUR - 1000 :1", "sale s1 EUR - 1000 ann:0", "sale s1 EUR - 1000 ann:-1", "sale s1 EUR - 1000 ann:01", "sale s1 EUR - 1000 ann:1 ", "sale s1 EUR - 1000  ann:1", "sale s1 EUR - 1000 ann:1 ann:2", "sale s1 EUR - 1000 ann:1,bob:1",
	"sale s1 EUR - 0 ann:1", "sale s1 EUR - -5 ann:1", "sale s1 EUR - 01000 ann:1", "sale s1 EUR - 1125899906842625 ann:1", "sale s1 EUR  1000 ann:1", "sale s1 EUR 1000 ann:1", "sale s1 eur - 1000 ann:1", "sale s1 EURO - 1000 ann:1", "sale - EUR - 1000 ann:1", "sale s1 - - 1000 ann:1", "sale s\t1 EUR - 1000 ann:1", "Sale s1 EUR - 1000 ann:1", "sales s1 EUR - 1000 ann:1",
	"sale s12345678901234567890 EUR - 1000 ann:1", "sale s1 EUR - 1000 a12345678901234567890:1", "sale s1 EUR - 1000 a:1 b:1 c:1 d:1 e:1 f:1 g:1 h:1 i:1",
	"refund", "refund r1", "refund r1 s1", "refund r1 s1 0", "refund r1 s1 -1", "refund r1 s1 05", "refund r1 s1 5 ", "refund r1 s1 5 5", "refund r1  s1 5", "refund - s1 5", "refund r1 - 5", "refund r1 s1 1125899906842625",
	"chargeback", "chargeback c1", "chargeback c1 s1", "chargeback c1 s1 0", "chargeback c1 s1 5 x", "chargeback c1 s1 x",
	"reverse", "reverse v1", "reverse v1 c1 5", "reverse v1 -", "reverse v1 c1 ", "reverse - c1",
	"hold", "hold h1", "hold h1 ann bob", "hold h1 -", "hold h1 ann ", "hold ann", "free", "free f1", "free f1 ann 1", "free f1  ann",
	"reply", "reply 1/EUR/ann", "reply 1/EUR/ann accepted", "reply 1/EUR/ann accepted -1", "reply 1/EUR/ann accepted 01", "reply 1/EUR/ann - 1", "reply - accepted 1", "reply 1/EUR/ann accepted 1 ", "reply 1/EUR/ann accepted 1 1",
}

// rightLines are lines, whatever comes of them.
var rightLines = []string{
	"choose", "choose 0", "choose 9", "choose 10", "choose 99", "choose 100", "choose 199", "choose 200", "choose 249", "choose 250", "choose 255", "choose 0 0", "choose 1 255 0 7",
	"late 0", "late 9", "late 10", "late 99", "late 100", "late 999", "late 1000",
	"fail 0", "fail 9", "fail 64", "fail 65", "fail 256", "fail 999", "fail 1000", "fail 0 0", "fail 1 64", "fail 1000 64 0 9 63",
	"balances", "payouts", "totals EUR", "totals USD", "totals ", "totals -", "totals \t", "totals \n", "totals \x00", "totals \xff", "totals eur", "totals EURO", "totals totals", "totals \u00a0", "totals 5",
	"tick", "sale s1 EUR - 1000 ann:1", "sale s2 EUR books 1125899906842624 ann:3 bob:1", "refund r1 s1 5", "chargeback c1 s1 5", "reverse v1 c1", "hold h1 ann", "free f1 ann", "reply 1/EUR/ann accepted 1", "reply 1/EUR/ann declined 0", "reply x unknown 1125899906842624", "reply x what 1",
	"sale choose EUR - 5 late:1", "hold balances totals", "hold h-1 -x",
}

func TestWrongLines(t *testing.T) {
	p := begin(t, 100, tenth)
	p.lines(t, "sale s1 EUR - 1000 ann:1")
	for _, s := range wrongLines {
		p.fails(t, s, api.ErrForm)
	}
	if p.own.Engine().Records() != 1 {
		t.Fatal(look(p.own))
	}
}

func TestRightLines(t *testing.T) {
	for _, s := range rightLines {
		p := begin(t, 100, tenth)
		if _, e := p.line(t, s); e == api.ErrForm {
			t.Errorf("%q: no line", s)
		}
	}
}

// edits are all texts that differ from s in one byte: without it, with another one in its place, with one more.
func edits(s string, bytes []byte) []string {
	var l []string
	for i := range len(s) + 1 {
		if i < len(s) {
			l = append(l, s[:i]+s[i+1:])
		}
		for _, b := range bytes {
			l = append(l, s[:i]+string([]byte{b})+s[i:])
			if i < len(s) {
				l = append(l, s[:i]+string([]byte{b})+s[i+1:])
			}
		}
	}
	return l
}

// Byte by byte, the model's patterns and layer 18 tell which texts are lines.
func TestNearlyLines(t *testing.T) {
	all := make([]byte, 256)
	for i := range all {
		all[i] = byte(i)
	}
	some := []byte(" \t\n\r\x00\x7f\x80\xff012456789+-_.,:/aeEzZ")
	seen := map[bool]int{}
	for _, s := range rightLines {
		bytes := some
		if len(s) < 10 {
			bytes = all
		}
		p := begin(t, 3000, tenth)
		p.lines(t, "sale s1 EUR - 1000 ann:1")
		for _, near := range edits(s, bytes) {
			_, e := p.line(t, near)
			seen[e == api.ErrForm]++
		}
	}
	if seen[true] < 50000 || seen[false] < 5000 {
		t.Fatal(seen)
	}
}

// All numbers of up to five figures, and each with a nought ahead: where each order's end.
func TestNumbers(t *testing.T) {
	d := opened(t, 10, tenth)
	check := func(s string, n, most int) {
		want := api.ErrForm
		if n >= 0 && n <= most {
			want = api.OK
		}
		if told, e := d.Line(s); e != want || len(told) != 0 {
			t.Fatalf("Line(%q): %q %d", s, told, e)
		}
	}
	for n := range 70000 {
		figures := figuresOf(n)
		for _, x := range []struct {
			ahead string
			most  int
		}{{"choose ", 255}, {"choose 7 ", 255}, {"late ", 1000}, {"fail ", 1000}, {"fail 7 ", 64}, {"fail 7 64 ", 64}} {
			check(x.ahead+figures, n, x.most)
			check(x.ahead+"0"+figures, -1, x.most)
			if n < 2000 {
				check(x.ahead+"-"+figures, -1, x.most)
				check(x.ahead+"+"+figures, -1, x.most)
			}
		}
	}
}

// figuresOf is a number's, without the library's help.
func figuresOf(n int) string {
	s := string(rune('0' + n%10))
	for n /= 10; n > 0; n /= 10 {
		s = string(rune('0'+n%10)) + s
	}
	return s
}
