package num_test

import (
	"fmt"
	"math"
	"math/big"
	"strings"
	"testing"

	"forebay/api"
	"forebay/num"
)

func fault(code api.Errno, at int) api.Fault { return api.Fault{Code: code, At: at} }

// short is a text as it is told in a failure.
func short(s string) string {
	if len(s) > 40 {
		return fmt.Sprintf("%q.. (%d bytes)", s[:40], len(s))
	}
	return fmt.Sprintf("%q", s)
}

func wantParse(t *testing.T, s string, lo, hi, n int, f api.Fault) {
	t.Helper()
	if gotN, gotF := num.Parse(s, lo, hi); gotN != n || gotF != f {
		t.Errorf("Parse(%s, %d, %d) is %d, %v, not %d, %v", short(s), lo, hi, gotN, gotF, n, f)
	}
}

func wantText(t *testing.T, n int, s string, code api.Errno) {
	t.Helper()
	if gotS, gotCode := num.Text(n); gotS != s || gotCode != code {
		t.Errorf("Text(%d) is %q, %v, not %q, %v", n, gotS, gotCode, s, code)
	}
}

func wantTime(t *testing.T, s string, n int, f api.Fault) {
	t.Helper()
	if gotN, gotF := num.Time(s); gotN != n || gotF != f {
		t.Errorf("Time(%s) is %d, %v, not %d, %v", short(s), gotN, gotF, n, f)
	}
}

func wantRate(t *testing.T, s string, n int, f api.Fault) {
	t.Helper()
	if gotN, gotF := num.Rate(s); gotN != n || gotF != f {
		t.Errorf("Rate(%s) is %d, %v, not %d, %v", short(s), gotN, gotF, n, f)
	}
}

func wantRateText(t *testing.T, n int, s string, code api.Errno) {
	t.Helper()
	if gotS, gotCode := num.RateText(n); gotS != s || gotCode != code {
		t.Errorf("RateText(%d) is %q, %v, not %q, %v", n, gotS, gotCode, s, code)
	}
}

// notDigit is the place of the first byte that is no digit, from a place on; -1: there is none.
func notDigit(s string, from int) int {
	for i := from; i < len(s); i++ {
		if strings.IndexByte("0123456789", s[i]) < 0 {
			return i
		}
	}
	return -1
}

// parseByItsWords works out what P5.1 says, in numbers without an end.
func parseByItsWords(s string, lo, hi int) (int, api.Fault) {
	if s == "" {
		return 0, fault(api.ErrShort, 0)
	}
	if at := notDigit(s, 0); at >= 0 {
		return 0, fault(api.ErrChar, at)
	}
	if strings.HasPrefix(s, "0") && s != "0" {
		return 0, fault(api.ErrForm, 0)
	}
	n, _ := new(big.Int).SetString(s, 10)
	if n.Cmp(big.NewInt(int64(lo))) < 0 || n.Cmp(big.NewInt(int64(hi))) > 0 {
		return 0, fault(api.ErrRange, 0)
	}
	return int(n.Int64()), api.Fault{}
}

// rateByItsWords works out what P5.2 says.
func rateByItsWords(s string) (int, api.Fault) {
	switch {
	case s == "1":
		return 1000000, api.Fault{}
	case s == "":
		return 0, fault(api.ErrShort, 0)
	case !strings.HasPrefix(s, "0"):
		return 0, fault(api.ErrForm, 0)
	case !strings.HasPrefix(s, "0."):
		return 0, fault(api.ErrForm, 1)
	case s == "0.":
		return 0, fault(api.ErrShort, 2)
	}
	if at := notDigit(s, 2); at >= 0 {
		return 0, fault(api.ErrChar, at)
	}
	if len(s) > 8 {
		return 0, fault(api.ErrLong, 8)
	}
	if strings.Trim(s[2:], "0") == "" {
		return 0, fault(api.ErrRange, 0)
	}
	n, _ := new(big.Rat).SetString(s)
	n.Mul(n, big.NewRat(1000000, 1))
	return int(n.Num().Int64()), api.Fault{}
}

// texts hands on each text of up to so many of the bytes, the shorter ones first.
func texts(alphabet string, most int, each func(s string)) {
	row := []string{""}
	for range most + 1 {
		var longer []string
		for _, s := range row {
			each(s)
			for _, b := range []byte(alphabet) {
				longer = append(longer, s+string([]byte{b}))
			}
		}
		row = longer
	}
}

// bounds are numbers that lo and hi may be.
var bounds = []int{math.MinInt, math.MinInt + 1, -10, -1, 0, 1, 7, 9, 10, 100, math.MaxInt - 1, math.MaxInt}

// P5.1: ordinary numbers.
func TestParse(t *testing.T) {
	for _, x := range []struct {
		s string
		n int
	}{
		{"0", 0}, {"1", 1}, {"2", 2}, {"3", 3}, {"4", 4}, {"5", 5}, {"6", 6}, {"7", 7}, {"8", 8}, {"9", 9},
		{"10", 10}, {"42", 42}, {"100", 100}, {"905", 905}, {"1234567890", 1234567890}, {"1000000000000", 1000000000000},
	} {
		wantParse(t, x.s, 0, math.MaxInt, x.n, api.Fault{})
		wantParse(t, x.s, math.MinInt, math.MaxInt, x.n, api.Fault{})
		wantParse(t, x.s, x.n, x.n, x.n, api.Fault{})
	}
}

// P5.1: the empty text goes ahead of all bounds.
func TestParseEmpty(t *testing.T) {
	for _, lo := range bounds {
		for _, hi := range bounds {
			wantParse(t, "", lo, hi, 0, fault(api.ErrShort, 0))
		}
	}
}

// P5.1: a byte that is no digit, at the start, in the middle and at the end; the first one is told.
func TestParseBadBytes(t *testing.T) {
	for i := range 256 {
		bad := string([]byte{byte(i)})
		if notDigit(bad, 0) < 0 {
			continue
		}
		wantParse(t, bad, 0, 9999, 0, fault(api.ErrChar, 0))
		wantParse(t, bad+"12", 0, 9999, 0, fault(api.ErrChar, 0))
		wantParse(t, "1"+bad+"2", 0, 9999, 0, fault(api.ErrChar, 1))
		wantParse(t, "12"+bad, 0, 9999, 0, fault(api.ErrChar, 2))
		wantParse(t, "1"+bad+bad, 0, 9999, 0, fault(api.ErrChar, 1))
		wantParse(t, bad+"1"+bad, 0, 9999, 0, fault(api.ErrChar, 0))
	}
	for _, s := range []string{"-1", "+1", "-0", " 1", "_1", ".5", "\u0661", "\xff1"} {
		wantParse(t, s, math.MinInt, math.MaxInt, 0, fault(api.ErrChar, 0))
	}
	for _, s := range []string{"1 ", "1_000", "0x10", "1e3", "1.5", "1\n", "1\u00b2", "1\x80"} {
		wantParse(t, s, math.MinInt, math.MaxInt, 0, fault(api.ErrChar, 1))
	}
}

// P5.1: a 0 stands alone; a bad byte behind one that does not is told ahead of it.
func TestParseZeros(t *testing.T) {
	wantParse(t, "0", 0, 9, 0, api.Fault{})
	wantParse(t, "0", 0, 0, 0, api.Fault{})
	wantParse(t, "0", -5, 5, 0, api.Fault{})
	wantParse(t, "0", 1, 9, 0, fault(api.ErrRange, 0))
	for _, s := range []string{"00", "01", "007", "000", "010", "0123456789", strings.Repeat("0", 300), "0" + strings.Repeat("9", 300)} {
		wantParse(t, s, 0, math.MaxInt, 0, fault(api.ErrForm, 0))
		wantParse(t, s, 5, 3, 0, fault(api.ErrForm, 0))
	}
	wantParse(t, "0x", 0, 9, 0, fault(api.ErrChar, 1))
	wantParse(t, "00x", 0, 9, 0, fault(api.ErrChar, 2))
	wantParse(t, "007x8", 0, 9, 0, fault(api.ErrChar, 3))
	wantParse(t, "0-", 0, 9, 0, fault(api.ErrChar, 1))
}

// P5.1: just at lo and at hi, one below and one above.
func TestParseBounds(t *testing.T) {
	wrong := fault(api.ErrRange, 0)
	for _, x := range []struct{ lo, hi int }{{0, 9}, {5, 5}, {7, 12}, {99, 100}, {1, 1 << 40}, {1000, 123456789}} {
		lo, hi := fmt.Sprint(x.lo), fmt.Sprint(x.hi)
		wantParse(t, lo, x.lo, x.hi, x.lo, api.Fault{})
		wantParse(t, hi, x.lo, x.hi, x.hi, api.Fault{})
		wantParse(t, fmt.Sprint(x.hi+1), x.lo, x.hi, 0, wrong)
		if x.lo > 0 {
			wantParse(t, fmt.Sprint(x.lo-1), x.lo, x.hi, 0, wrong)
		}
	}
	wantParse(t, "5", 6, 4, 0, wrong)
	wantParse(t, "4", 5, 4, 0, wrong)
	wantParse(t, "5", 5, 4, 0, wrong)
	wantParse(t, "5", math.MaxInt, math.MinInt, 0, wrong)
	wantParse(t, "0", -9, -1, 0, wrong)
	wantParse(t, "3", -9, -1, 0, wrong)
	wantParse(t, "0", math.MinInt, math.MinInt, 0, wrong)
	wantParse(t, "3", -9, 3, 3, api.Fault{})
}

// P5.1: what is wrong with the text goes ahead of the range.
func TestParseOrder(t *testing.T) {
	wantParse(t, "", 9, 3, 0, fault(api.ErrShort, 0))
	wantParse(t, "99x", 0, 9, 0, fault(api.ErrChar, 2))
	wantParse(t, "09", 0, 5, 0, fault(api.ErrForm, 0))
	wantParse(t, strings.Repeat("9", 400)+"x", 0, 9, 0, fault(api.ErrChar, 400))
	wantParse(t, "0"+strings.Repeat("9", 400)+"x", 0, 9, 0, fault(api.ErrChar, 401))
}

// P5.1: numbers around the powers of 2 and of 10 where a word ends.
func TestParseGreat(t *testing.T) {
	var edges []*big.Int
	for _, bit := range []uint{31, 32, 40, 53, 62, 63, 64, 65, 127, 128} {
		edges = append(edges, new(big.Int).Lsh(big.NewInt(1), bit))
	}
	for _, power := range []int64{17, 18, 19, 20, 21, 38, 39, 40} {
		edges = append(edges, new(big.Int).Exp(big.NewInt(10), big.NewInt(power), nil))
	}
	for _, times := range []int64{2, 3, 5, 9, 10, 11, 100} {
		edges = append(edges, new(big.Int).Mul(edges[6], big.NewInt(times)))
	}
	for _, edge := range edges {
		for off := int64(-20); off <= 20; off++ {
			s := new(big.Int).Add(edge, big.NewInt(off)).String()
			for _, hi := range []int{9, 1 << 40, math.MaxInt - 1, math.MaxInt} {
				n, f := parseByItsWords(s, 0, hi)
				wantParse(t, s, 0, hi, n, f)
			}
		}
	}
	wantParse(t, "9223372036854775806", 0, math.MaxInt, math.MaxInt-1, api.Fault{})
	wantParse(t, "9223372036854775807", 0, math.MaxInt, math.MaxInt, api.Fault{})
	wantParse(t, "9223372036854775807", math.MaxInt, math.MaxInt, math.MaxInt, api.Fault{})
	wantParse(t, "9223372036854775807", 0, math.MaxInt-1, 0, fault(api.ErrRange, 0))
	wantParse(t, "9223372036854775808", math.MinInt, math.MaxInt, 0, fault(api.ErrRange, 0))
	wantParse(t, "18446744073709551616", math.MinInt, math.MaxInt, 0, fault(api.ErrRange, 0))
	wantParse(t, "18446744073709551617", math.MinInt, math.MaxInt, 0, fault(api.ErrRange, 0))
}

// P5.1: texts of hundreds of digits, those too whose last digits alone would be in the range.
func TestParseLong(t *testing.T) {
	wrong := fault(api.ErrRange, 0)
	for _, many := range []int{18, 19, 20, 21, 40, 64, 65, 100, 255, 256, 500, 5000} {
		for _, s := range []string{
			strings.Repeat("9", many),
			"1" + strings.Repeat("0", many),
			"7" + strings.Repeat("0", many) + "5",
			"12" + strings.Repeat("34", many),
		} {
			n, f := parseByItsWords(s, 0, math.MaxInt)
			wantParse(t, s, 0, math.MaxInt, n, f)
			wantParse(t, s, 0, 9, 0, wrong)
			wantParse(t, s, math.MinInt, 0, 0, wrong)
		}
	}
}

// P5.1: each short text, at many bounds, by the promise's words.
func TestParseByItsWords(t *testing.T) {
	texts("0179-x", 4, func(s string) {
		for _, lo := range bounds {
			for _, hi := range bounds {
				n, f := parseByItsWords(s, lo, hi)
				wantParse(t, s, lo, hi, n, f)
			}
		}
	})
}

// P5.1: texts of numbers; none below 0 has one.
func TestText(t *testing.T) {
	for n, s := range map[int]string{
		0: "0", 1: "1", 9: "9", 10: "10", 99: "99", 100: "100", 101: "101", 1000000: "1000000", 1 << 40: "1099511627776",
		math.MaxInt - 1: "9223372036854775806", math.MaxInt: "9223372036854775807",
	} {
		wantText(t, n, s, api.OK)
	}
	for _, n := range []int{-1, -2, -10, -1000000, math.MinInt + 1, math.MinInt} {
		wantText(t, n, "", api.ErrRange)
	}
}

// P5.1: times are numbers from 1 to 2^40.
func TestTime(t *testing.T) {
	wantTime(t, "0", 0, fault(api.ErrRange, 0))
	wantTime(t, "1", 1, api.Fault{})
	wantTime(t, "2", 2, api.Fault{})
	wantTime(t, "1700000000", 1700000000, api.Fault{})
	wantTime(t, "1099511627775", 1<<40-1, api.Fault{})
	wantTime(t, "1099511627776", 1<<40, api.Fault{})
	wantTime(t, "1099511627777", 0, fault(api.ErrRange, 0))
	wantTime(t, "9223372036854775808", 0, fault(api.ErrRange, 0))
	wantTime(t, "18446744073709551617", 0, fault(api.ErrRange, 0))
	wantTime(t, strings.Repeat("1", 300), 0, fault(api.ErrRange, 0))
	wantTime(t, "", 0, fault(api.ErrShort, 0))
	wantTime(t, "-1", 0, fault(api.ErrChar, 0))
	wantTime(t, "12x", 0, fault(api.ErrChar, 2))
	wantTime(t, "01", 0, fault(api.ErrForm, 0))
	wantTime(t, "01x", 0, fault(api.ErrChar, 2))
}

// P5.2: rates of one to six digits behind the point, and the whole one.
func TestRate(t *testing.T) {
	for s, n := range map[string]int{
		"1": 1000000, "0.5": 500000, "0.50": 500000, "0.500000": 500000, "0.1": 100000, "0.9": 900000, "0.05": 50000,
		"0.12": 120000, "0.123": 123000, "0.1234": 123400, "0.12345": 123450, "0.123456": 123456, "0.00001": 10,
		"0.000010": 10, "0.000001": 1, "0.999999": 999999, "0.001": 1000, "0.0100": 10000, "0.100001": 100001,
	} {
		wantRate(t, s, n, api.Fault{})
	}
}

// P5.2: what stands ahead of the digits.
func TestRateForm(t *testing.T) {
	wantRate(t, "", 0, fault(api.ErrShort, 0))
	for _, s := range []string{"2", "9", "1.0", "1.", "1.5", "10", "11", "1 ", "1x", ".5", "-0.5", "+0.5", " 0.5", "x", ".", "\x00", "\xff", "\u0660.5"} {
		wantRate(t, s, 0, fault(api.ErrForm, 0))
	}
	for _, s := range []string{"0", "00", "00.5", "01", "0x5", "0,5", "0 .5", "0:5", "0/5", "05", "0\xff", "00000000000", "0x"} {
		wantRate(t, s, 0, fault(api.ErrForm, 1))
	}
	wantRate(t, "0.", 0, fault(api.ErrShort, 2))
	for i := range 256 {
		b := string([]byte{byte(i)})
		if b != "0" && b != "1" {
			wantRate(t, b, 0, fault(api.ErrForm, 0))
		}
		if b != "0" {
			wantRate(t, b+".5", 0, fault(api.ErrForm, 0))
			wantRate(t, b+"x", 0, fault(api.ErrForm, 0))
		}
		if b != "." {
			wantRate(t, "0"+b, 0, fault(api.ErrForm, 1))
			wantRate(t, "0"+b+"5", 0, fault(api.ErrForm, 1))
			wantRate(t, "0"+b+"x", 0, fault(api.ErrForm, 1))
		}
	}
}

// P5.2: the first bad byte behind the point, whatever it is and however far behind, ahead of what is too long.
func TestRateBadBytes(t *testing.T) {
	for i := range 256 {
		b := string([]byte{byte(i)})
		if notDigit(b, 0) < 0 {
			continue
		}
		for at := range 12 {
			ahead := "0." + strings.Repeat("1", at)
			wantRate(t, ahead+b, 0, fault(api.ErrChar, 2+at))
			wantRate(t, ahead+b+"5", 0, fault(api.ErrChar, 2+at))
			wantRate(t, ahead+b+b, 0, fault(api.ErrChar, 2+at))
			wantRate(t, ahead+b+"55555555", 0, fault(api.ErrChar, 2+at))
		}
	}
	wantRate(t, "0..5", 0, fault(api.ErrChar, 2))
	wantRate(t, "0.5.", 0, fault(api.ErrChar, 3))
	wantRate(t, "0.000x", 0, fault(api.ErrChar, 5))
	wantRate(t, "0.0000000x", 0, fault(api.ErrChar, 9))
	wantRate(t, "0."+strings.Repeat("0", 500)+"x", 0, fault(api.ErrChar, 502))
}

// P5.2: more than six digits are too many, be they zeros or not.
func TestRateLong(t *testing.T) {
	for _, s := range []string{"0.1234567", "0.0000000", "0.0000001", "0.5000000", "0.12345678", "0.99999999999999999999",
		"0." + strings.Repeat("0", 300), "0." + strings.Repeat("9", 300)} {
		wantRate(t, s, 0, fault(api.ErrLong, 8))
	}
}

// P5.2: no rate is 0.
func TestRateZero(t *testing.T) {
	for many := 1; many <= 6; many++ {
		wantRate(t, "0."+strings.Repeat("0", many), 0, fault(api.ErrRange, 0))
	}
}

// P5.2: each short text of some bytes, by the promise's words.
func TestRateByItsWords(t *testing.T) {
	both := func(s string) {
		n, f := rateByItsWords(s)
		wantRate(t, s, n, f)
	}
	texts("015.x", 5, both)
	texts("07x", 8, func(s string) { both("0." + s) })
}

// P5.2: texts of rates; what is no rate has none.
func TestRateText(t *testing.T) {
	for n, s := range map[int]string{
		1000000: "1", 999999: "0.999999", 999990: "0.99999", 500000: "0.5", 100000: "0.1", 50000: "0.05", 10000: "0.01",
		1000: "0.001", 100: "0.0001", 10: "0.00001", 1: "0.000001", 2: "0.000002", 120000: "0.12", 10100: "0.0101",
		100001: "0.100001", 333333: "0.333333", 900000: "0.9",
	} {
		wantRateText(t, n, s, api.OK)
	}
	for _, n := range []int{0, -1, -500000, -1000000, 1000001, 1000010, 2000000, math.MaxInt, math.MaxInt - 1, math.MinInt, math.MinInt + 1} {
		wantRateText(t, n, "", api.ErrRange)
	}
}

// P5.3: a number's text is read as it, and no other text is.
func TestThereAndBack(t *testing.T) {
	back := func(n int) {
		t.Helper()
		s, code := num.Text(n)
		if code != api.OK {
			t.Fatalf("Text(%d): %v", n, code)
		}
		wantParse(t, s, 0, math.MaxInt, n, api.Fault{})
		wantParse(t, s, n, n, n, api.Fault{})
	}
	for n := range 20000 {
		back(n)
	}
	for bit := range 63 {
		for _, n := range []int{1<<bit - 1, 1 << bit, 1<<bit | 1, math.MaxInt - 1<<bit + 1} {
			back(n)
		}
	}
	texts("0123456789", 4, func(s string) {
		n, f := num.Parse(s, 0, math.MaxInt)
		if f == (api.Fault{}) {
			wantText(t, n, s, api.OK)
		}
	})
}

// P5.3: each rate is read of its text, and of that text with zeros behind; a greater rate has the greater text.
func TestRatesThereAndBack(t *testing.T) {
	last := ""
	for n := 1; n <= 1000000; n++ {
		s, code := num.RateText(n)
		if code != api.OK || s <= last {
			t.Fatalf("RateText(%d) is %q, %v, behind %q", n, s, code, last)
		}
		last = s
		for longer := s; ; longer += "0" {
			got, f := num.Rate(longer)
			if got != n || f != (api.Fault{}) {
				t.Fatalf("Rate(%q) is %d, %v, not %d", longer, got, f, n)
			}
			if n == 1000000 || len(longer) == 8 {
				break
			}
		}
	}
}

// P5.3: a rate's text is the shortest one that is read as it, of all that are read at all.
func TestRateTextIsTheShortest(t *testing.T) {
	read := 0
	for many, power := 1, 10; many <= 6; many, power = many+1, power*10 {
		for n := range power {
			s := fmt.Sprintf("0.%0*d", many, n)
			rate, f := num.Rate(s)
			if f != (api.Fault{}) {
				continue
			}
			read++
			text, _ := num.RateText(rate)
			if len(text) > len(s) || len(text) == len(s) && text != s {
				t.Fatalf("RateText(%d) is %q, but %q is read as it", rate, text, s)
			}
		}
	}
	if want := 1111110 - 6; read != want {
		t.Errorf("%d texts are read, not %d", read, want)
	}
}

// The chapter's examples.
func TestExamples(t *testing.T) {
	wantParse(t, `007`, 0, 9, 0, fault(api.ErrForm, 0))
	wantParse(t, `12x`, 0, 99, 0, fault(api.ErrChar, 2))
	wantRate(t, `0.5`, 500000, api.Fault{})
	wantRate(t, `0.50`, 500000, api.Fault{})
	wantRateText(t, 500000, `0.5`, api.OK)
	wantRate(t, `0.0`, 0, fault(api.ErrRange, 0))
	wantRate(t, `2`, 0, fault(api.ErrForm, 0))
	wantRate(t, `1.0`, 0, fault(api.ErrForm, 0))
}

// P5.1 at any arguments.
func FuzzParse(f *testing.F) {
	f.Add("12", 0, 99)
	f.Add("007", 0, 9)
	f.Add("", 1, 0)
	f.Add("9223372036854775808", math.MinInt, math.MaxInt)
	f.Add("1x", -5, -7)
	f.Fuzz(func(t *testing.T, s string, lo, hi int) {
		n, wrong := parseByItsWords(s, lo, hi)
		wantParse(t, s, lo, hi, n, wrong)
		n, wrong = parseByItsWords(s, 1, 1<<40)
		wantTime(t, s, n, wrong)
	})
}

// P5.2 at any arguments.
func FuzzRate(f *testing.F) {
	for _, s := range []string{"", "1", "0", "0.", "0.5", "0.123456", "0.1234567", "0.0", "0.1x", "2"} {
		f.Add(s)
	}
	f.Fuzz(func(t *testing.T, s string) {
		n, wrong := rateByItsWords(s)
		wantRate(t, s, n, wrong)
	})
}
