package dec_test

import (
	"cmp"
	"math"
	"math/big"
	"regexp"
	"strings"
	"testing"

	"forebay/api"
	"forebay/dec"
)

const greatest = math.MaxUint64

var none api.Dec

// up is a number from 0 on, down one below it.
func up(coef uint64, exp int) api.Dec   { return api.Dec{Coef: coef, Exp: exp} }
func down(coef uint64, exp int) api.Dec { return api.Dec{Neg: true, Coef: coef, Exp: exp} }

// zeros are so many of them.
func zeros(many int) string { return strings.Repeat("0", many) }

// exact is the number of a Dec, worked out without the program.
func exact(d api.Dec) *big.Rat {
	size := new(big.Int).SetUint64(d.Coef)
	power := new(big.Int).Exp(big.NewInt(10), big.NewInt(int64(max(d.Exp, -d.Exp))), nil)
	r := new(big.Rat).SetInt(size)
	if d.Exp < 0 {
		r.Quo(r, new(big.Rat).SetInt(power))
	} else {
		r.Mul(r, new(big.Rat).SetInt(power))
	}
	if d.Neg {
		r.Neg(r)
	}
	return r
}

// oneForm says what the chapter says: when a Dec is in its one form.
func oneForm(d api.Dec) bool {
	if d.Coef == 0 {
		return !d.Neg && d.Exp == 0
	}
	return -18 <= d.Exp && d.Exp <= 18 && (d.Coef%10 != 0 || d.Exp == 18)
}

// formOf looks for the Dec of a number, in its one form, among those of all Exps; false if it has none.
func formOf(r *big.Rat) (api.Dec, bool) {
	if r.Sign() == 0 {
		return none, true
	}
	size := new(big.Rat).Abs(r)
	for exp := -18; exp <= 18; exp++ {
		coef := new(big.Rat).Mul(size, exact(up(1, -exp)))
		if !coef.IsInt() || !coef.Num().IsUint64() {
			continue
		}
		if d := (api.Dec{Neg: r.Sign() < 0, Coef: coef.Num().Uint64(), Exp: exp}); oneForm(d) {
			return d, true
		}
	}
	return none, false
}

// forms are Decs, what Check tells of each, and what Normal makes of it: the zero Dec beside an error.
var forms = []struct {
	d      api.Dec
	check  api.Errno
	normal api.Dec
	code   api.Errno
}{
	{none, api.OK, none, api.OK},
	{up(0, 1), api.ErrCanon, none, api.OK},
	{up(0, -1), api.ErrCanon, none, api.OK},
	{up(0, 18), api.ErrCanon, none, api.OK},
	{up(0, 19), api.ErrCanon, none, api.OK},
	{up(0, -19), api.ErrCanon, none, api.OK},
	{up(0, math.MaxInt), api.ErrCanon, none, api.OK},
	{up(0, math.MinInt), api.ErrCanon, none, api.OK},
	{down(0, 0), api.ErrCanon, none, api.OK},
	{down(0, 7), api.ErrCanon, none, api.OK},
	{down(0, math.MinInt), api.ErrCanon, none, api.OK},

	{up(1, 0), api.OK, up(1, 0), api.OK},
	{down(1, 0), api.OK, down(1, 0), api.OK},
	{up(25, -1), api.OK, up(25, -1), api.OK},
	{up(greatest, 0), api.OK, up(greatest, 0), api.OK},
	{down(greatest, 0), api.OK, down(greatest, 0), api.OK},
	{up(1, -18), api.OK, up(1, -18), api.OK},
	{up(greatest, -18), api.OK, up(greatest, -18), api.OK},
	{up(1, 18), api.OK, up(1, 18), api.OK},
	{up(10, 18), api.OK, up(10, 18), api.OK},
	{down(1000, 18), api.OK, down(1000, 18), api.OK},
	{up(greatest, 18), api.OK, up(greatest, 18), api.OK},
	{up(greatest-5, 18), api.OK, up(greatest-5, 18), api.OK},

	{up(10, 0), api.ErrCanon, up(1, 1), api.OK},
	{down(1000, 0), api.ErrCanon, down(1, 3), api.OK},
	{up(1200, -1), api.ErrCanon, up(12, 1), api.OK},
	{up(10, 17), api.ErrCanon, up(1, 18), api.OK},
	{up(100, 17), api.ErrCanon, up(10, 18), api.OK},
	{up(1000, 16), api.ErrCanon, up(10, 18), api.OK},
	{up(10, -18), api.ErrCanon, up(1, -17), api.OK},
	{up(greatest-5, 0), api.ErrCanon, up(greatest/10, 1), api.OK},
	{up(1e19, 0), api.ErrCanon, up(10, 18), api.OK},
	{up(1e19, -18), api.ErrCanon, up(1, 1), api.OK},

	{up(1, 19), api.ErrRange, up(10, 18), api.OK},
	{down(10, 19), api.ErrRange, down(100, 18), api.OK},
	{up(1, 37), api.ErrRange, up(1e19, 18), api.OK},
	{up(1, 38), api.ErrRange, none, api.ErrRange},
	{up(2, 37), api.ErrRange, none, api.ErrRange},
	{down(greatest/10, 19), api.ErrRange, down(greatest-5, 18), api.OK},
	{up(greatest/10+1, 19), api.ErrRange, none, api.ErrRange},
	{up(greatest, 19), api.ErrRange, none, api.ErrRange},
	{up(1, 18+64), api.ErrRange, none, api.ErrRange},
	{up(1<<63, 18+64), api.ErrRange, none, api.ErrRange},
	{up(1, math.MaxInt), api.ErrRange, none, api.ErrRange},
	{up(10, math.MaxInt), api.ErrRange, none, api.ErrRange},

	{up(1, -19), api.ErrRange, none, api.ErrRange},
	{down(greatest, -19), api.ErrRange, none, api.ErrRange},
	{up(10, -19), api.ErrRange, up(1, -18), api.OK},
	{down(10, -20), api.ErrRange, none, api.ErrRange},
	{down(1200, -20), api.ErrRange, down(12, -18), api.OK},
	{up(1e19, -37), api.ErrRange, up(1, -18), api.OK},
	{up(1e19, -38), api.ErrRange, none, api.ErrRange},
	{up(1, math.MinInt), api.ErrRange, none, api.ErrRange},
	{up(1e19, math.MinInt), api.ErrRange, none, api.ErrRange},
}

// P3.1: ErrRange ahead of ErrCanon; of the Coef 0 no Exp is beyond the range.
func TestCheck(t *testing.T) {
	for _, c := range forms {
		if code := dec.Check(c.d); code != c.check {
			t.Errorf("Check(%v) = %v, not %v", c.d, code, c.check)
		}
	}
}

// P3.1: the one form, if there is one; beside an error nothing.
func TestNormal(t *testing.T) {
	for _, c := range forms {
		if d, code := dec.Normal(c.d); d != c.normal || code != c.code {
			t.Errorf("Normal(%v) = %v, %v, not %v, %v", c.d, d, code, c.normal, c.code)
		}
	}
}

// coefs have many last digits 0, and stand at the ends of the range.
func coefs() []uint64 {
	row := []uint64{0, 9, 11, 12345, 1 << 63, greatest - 5, greatest - 1, greatest, greatest / 10, greatest/10 + 1, greatest / 100}
	for n := uint64(1); ; n *= 10 {
		row = append(row, n, n-1, n+1)
		if n == 1e19 {
			return row
		}
		row = append(row, 7*n)
	}
}

// P3.1, P3.4: each Dec against the chapter's words, worked out over all Exps.
func TestFormsOfAll(t *testing.T) {
	for _, coef := range coefs() {
		for exp := -45; exp <= 45; exp++ {
			for _, d := range []api.Dec{up(coef, exp), down(coef, exp)} {
				wantForm(t, d)
			}
		}
	}
}

func wantForm(t *testing.T, d api.Dec) {
	t.Helper()
	check := api.OK
	if d.Coef != 0 && (d.Exp < -18 || d.Exp > 18) {
		check = api.ErrRange
	} else if !oneForm(d) {
		check = api.ErrCanon
	}
	if code := dec.Check(d); code != check {
		t.Errorf("Check(%v) = %v, not %v", d, code, check)
	}
	code := api.ErrRange
	form, is := formOf(exact(d))
	if is {
		code = api.OK
	}
	if one, e := dec.Normal(d); one != form || e != code {
		t.Errorf("Normal(%v) = %v, %v, not %v, %v", d, one, e, form, code)
	}
}

// texts are as they were written, the Dec of each, and the one text of it.
var texts = []struct {
	s   string
	d   api.Dec
	one string
}{
	{"0", none, "0"},
	{"1", up(1, 0), "1"},
	{"-1", down(1, 0), "-1"},
	{"9", up(9, 0), "9"},
	{"1000", up(1, 3), "1000"},
	{"1200", up(12, 2), "1200"},
	{"1203", up(1203, 0), "1203"},
	{"-01.50", down(15, -1), "-1.5"},
	{"0.05", up(5, -2), "0.05"},
	{"-0.5", down(5, -1), "-0.5"},
	{"10.01", up(1001, -2), "10.01"},
	{"100.5", up(1005, -1), "100.5"},
	{"12.0", up(12, 0), "12"},
	{"120.00", up(12, 1), "120"},
	{"3.14159", up(314159, -5), "3.14159"},

	// a zero below nought is the one of nought
	{"-0", none, "0"},
	{"00", none, "0"},
	{"-000", none, "0"},
	{"0.0", none, "0"},
	{"-0.000", none, "0"},
	{zeros(50) + "." + zeros(50), none, "0"},

	// zeros ahead, and behind the point, are nothing
	{"007", up(7, 0), "7"},
	{zeros(100) + "7", up(7, 0), "7"},
	{zeros(100) + "7." + zeros(100), up(7, 0), "7"},
	{"-" + zeros(30) + "1.5" + zeros(30), down(15, -1), "-1.5"},
	{"1." + zeros(100), up(1, 0), "1"},
	{"0.5" + zeros(100), up(5, -1), "0.5"},

	// the ends of the range
	{"18446744073709551615", up(greatest, 0), "18446744073709551615"},
	{"-18446744073709551615", down(greatest, 0), "-18446744073709551615"},
	{"18446744073709551609", up(greatest-6, 0), "18446744073709551609"},
	{"18446744073709551610", up(greatest/10, 1), "18446744073709551610"},
	{"18446744073709551620", up(greatest/10+1, 1), "18446744073709551620"},
	{"99999999999999999990", up(9999999999999999999, 1), "99999999999999999990"},
	{"18.446744073709551615", up(greatest, -18), "18.446744073709551615"},
	{"0.000000000000000001", up(1, -18), "0.000000000000000001"},
	{"-0.000000000000000001" + zeros(9), down(1, -18), "-0.000000000000000001"},
	{"0.123456789012345678", up(123456789012345678, -18), "0.123456789012345678"},
	{"1.123456789012345678", up(1123456789012345678, -18), "1.123456789012345678"},
	{"1" + zeros(18), up(1, 18), "1" + zeros(18)},
	{"1" + zeros(19), up(10, 18), "1" + zeros(19)},
	{"-1" + zeros(37), down(1e19, 18), "-1" + zeros(37)},
	{"18446744073709551615" + zeros(18), up(greatest, 18), "18446744073709551615" + zeros(18)},
	{"1844674407370955161" + zeros(19), up(greatest-5, 18), "1844674407370955161" + zeros(19)},
	{"18446744073709551615" + zeros(18) + "." + zeros(40), up(greatest, 18), "18446744073709551615" + zeros(18)},
}

// P3.2: what is parsed is in its one form.
func TestParse(t *testing.T) {
	for _, c := range texts {
		if d, fault := dec.Parse(c.s); d != c.d || fault != (api.Fault{}) {
			t.Errorf("Parse(%q) = %v, %v, not %v", c.s, d, fault, c.d)
		}
	}
}

// P3.2, P3.4: a number has one text, and is parsed from it.
func TestText(t *testing.T) {
	for _, c := range texts {
		if s, code := dec.Text(c.d); s != c.one || code != api.OK {
			t.Errorf("Text(%v) = %q, %v, not %q", c.d, s, code, c.one)
		}
		if d, fault := dec.Parse(c.one); d != c.d || fault != (api.Fault{}) {
			t.Errorf("Parse(%q) = %v, %v, not %v", c.one, d, fault, c.d)
		}
	}
}

// P3.2: what ends where a digit has to stand, what has a wrong byte, and what has no Dec.
func TestParseWrong(t *testing.T) {
	for _, c := range []struct {
		s    string
		code api.Errno
		at   int
	}{
		{"", api.ErrForm, 0},
		{"-", api.ErrForm, 1},
		{"1.", api.ErrForm, 2},
		{"-1.", api.ErrForm, 3},
		{"-120.", api.ErrForm, 5},

		{"+1", api.ErrChar, 0},
		{".", api.ErrChar, 0},
		{".5", api.ErrChar, 0},
		{" 1", api.ErrChar, 0},
		{"e", api.ErrChar, 0},
		{"/", api.ErrChar, 0},
		{":", api.ErrChar, 0},
		{"\x00", api.ErrChar, 0},
		{"\xff1", api.ErrChar, 0},
		{"١", api.ErrChar, 0},
		{"--1", api.ErrChar, 1},
		{"-+1", api.ErrChar, 1},
		{"-.5", api.ErrChar, 1},
		{"1-", api.ErrChar, 1},
		{"1 ", api.ErrChar, 1},
		{"1/", api.ErrChar, 1},
		{"1:", api.ErrChar, 1},
		{"1,5", api.ErrChar, 1},
		{"1e5", api.ErrChar, 1},
		{"1_0", api.ErrChar, 1},
		{"0x1", api.ErrChar, 1},
		{"1é", api.ErrChar, 1},
		{"1..", api.ErrChar, 2},
		{"1.-5", api.ErrChar, 2},
		{"12a", api.ErrChar, 2},
		{"12\n", api.ErrChar, 2},
		{"1.2.", api.ErrChar, 3},
		{"1.2.3", api.ErrChar, 3},
		{"1.2-", api.ErrChar, 3},
		{"1.2a.", api.ErrChar, 3},

		{"18446744073709551616", api.ErrRange, 0},
		{"-18446744073709551616", api.ErrRange, 0},
		{"18446744073709551621", api.ErrRange, 0},
		{"1.8446744073709551616", api.ErrRange, 0},
		{"10000000000000000000.1", api.ErrRange, 0},
		{"1" + zeros(40) + "1", api.ErrRange, 0},
		{"1" + zeros(60) + "1", api.ErrRange, 0},
		{strings.Repeat("9", 20), api.ErrRange, 0},
		{strings.Repeat("9", 21), api.ErrRange, 0},
		{strings.Repeat("9", 22) + zeros(5), api.ErrRange, 0},
		{strings.Repeat("9", 300), api.ErrRange, 0},
		{"0." + zeros(18) + "1", api.ErrRange, 0},
		{"-0." + zeros(300) + "1", api.ErrRange, 0},
		{"1." + zeros(18) + "1", api.ErrRange, 0},
		{"1" + zeros(38), api.ErrRange, 0},
		{"1" + zeros(300), api.ErrRange, 0},
		{"18446744073709551615" + zeros(19), api.ErrRange, 0},
		{"1.18446744073709551615", api.ErrRange, 0},

		// the form is told ahead of the range
		{strings.Repeat("9", 20) + ".", api.ErrForm, 21},
		{strings.Repeat("9", 30) + "x", api.ErrChar, 30},
		{"0." + zeros(18) + "1x", api.ErrChar, 21},
	} {
		if d, fault := dec.Parse(c.s); d != none || fault != (api.Fault{Code: c.code, At: c.at}) {
			t.Errorf("Parse(%q) = %v, %v, not %v at %v", c.s, d, fault, c.code, c.at)
		}
	}
}

// P3.2: of all bytes, which may stand where.
func TestParseBytes(t *testing.T) {
	for b := range 256 {
		digit := '0' <= b && b <= '9'
		for _, c := range []struct {
			ahead string
			may   bool
		}{
			{"", digit || b == '-'},
			{"-", digit},
			{"7", digit || b == '.'},
			{"-7", digit || b == '.'},
			{"7.", digit},
			{"7.7", digit},
		} {
			_, fault := dec.Parse(c.ahead + string([]byte{byte(b)}) + "7")
			want := api.Fault{}
			if !c.may {
				want = api.Fault{Code: api.ErrChar, At: len(c.ahead)}
			}
			if fault != want {
				t.Errorf("Parse of byte %d behind %q: %v, not %v", b, c.ahead, fault, want)
			}
		}
	}
}

// P3.2: a text of a great many digits is gone through in good time.
func TestParseLong(t *testing.T) {
	many := 1 << 21
	if d, fault := dec.Parse(zeros(many) + "2." + zeros(many)); d != up(2, 0) || fault != (api.Fault{}) {
		t.Error("zeros on either side:", d, fault)
	}
	for _, s := range []string{strings.Repeat("10", many), "1" + zeros(many), "0." + zeros(many) + "1", "1" + zeros(many) + "1"} {
		if d, fault := dec.Parse(s); d != none || fault != (api.Fault{Code: api.ErrRange}) {
			t.Error("beyond:", d, fault)
		}
	}
}

// P3.2: what Check tells of a Dec, Text answers as well.
func TestTextWrong(t *testing.T) {
	for _, c := range forms {
		s, code := dec.Text(c.d)
		if code != c.check || (s != "") != (code == api.OK) {
			t.Errorf("Text(%v) = %q, %v, not %v", c.d, s, code, c.check)
		}
	}
}

// P3.2: all places of the point, and all zeros behind a number.
func TestTextPoints(t *testing.T) {
	for exp := 1; exp <= 18; exp++ {
		for _, c := range []struct {
			d    api.Dec
			want string
		}{
			{up(7, exp), "7" + zeros(exp)},
			{down(7, -exp), "-0." + zeros(exp-1) + "7"},
			{up(greatest, exp), "18446744073709551615" + zeros(exp)},
			{up(greatest, -exp), "18446744073709551615"[:20-exp] + "." + "18446744073709551615"[20-exp:]},
		} {
			if s, code := dec.Text(c.d); s != c.want || code != api.OK {
				t.Errorf("Text(%v) = %q, %v, not %q", c.d, s, code, c.want)
			}
		}
	}
}

// ordered are numbers, each one greater than the one ahead of it.
var ordered = []api.Dec{
	down(greatest, 18), down(greatest-1, 18), down(1e19, 18), down(10, 18), down(1, 18),
	down(1, 1), down(999, -2), down(1, 0), down(2, -18), down(1, -18),
	none,
	up(1, -18), up(2, -18), up(1, -17), up(5, -2), up(5, -1), up(999999999999999999, -18),
	up(1, 0), up(1000000000000000001, -18), up(11, -1), up(9, 0), up(1, 1), up(greatest, -18), up(19, 0),
	up(1, 2), up(1005, -1), up(1, 17), up(1, 18), up(greatest-1, -1), up(greatest, -1), up(2, 18),
	up(9999999999999999999, 0), up(10, 18), up(greatest-1, 0), up(greatest, 0), up(greatest/10+1, 1),
	up(greatest/10, 18), up(1e19, 18), up(greatest-1, 18), up(greatest, 18),
}

// P3.3: numbers of both signs, and of very different Exps.
func TestCompareOrdered(t *testing.T) {
	for i, a := range ordered {
		for k, b := range ordered {
			if n, code := dec.Compare(a, b); n != cmp.Compare(i, k) || code != api.OK {
				t.Errorf("Compare(%v, %v) = %v, %v, not %v", a, b, n, code, cmp.Compare(i, k))
			}
		}
	}
}

// P3.3, P3.4: the order is that of the numbers, worked out without the program; only the same Dec is the same number.
func TestCompare(t *testing.T) {
	numbers := []api.Dec{none}
	for _, coef := range []uint64{1, 9, 11, 999, 12345678901234567, greatest / 10, greatest - 1, greatest} {
		for exp := -18; exp <= 18; exp++ {
			numbers = append(numbers, up(coef, exp), down(coef, exp))
		}
	}
	rats := make([]*big.Rat, len(numbers))
	for i, d := range numbers {
		rats[i] = exact(d)
	}
	for i, a := range numbers {
		for k, b := range numbers {
			n, code := dec.Compare(a, b)
			if want := rats[i].Cmp(rats[k]); n != want || code != api.OK || (n == 0) != (a == b) {
				t.Errorf("Compare(%v, %v) = %v, %v, not %v", a, b, n, code, want)
			}
		}
	}
}

// P3.3: Check's error of the first number, or else of the second one.
func TestCompareWrong(t *testing.T) {
	for _, c := range forms {
		if c.check == api.OK {
			continue
		}
		for _, other := range []api.Dec{none, up(1, 0), down(greatest, 18), c.d} {
			wantCompareCode(t, c.d, other, c.check)
			wantCompareCode(t, other, c.d, c.check)
		}
	}
	wantCompareCode(t, up(10, 0), up(1, 19), api.ErrCanon)
	wantCompareCode(t, up(1, 19), up(10, 0), api.ErrRange)
	wantCompareCode(t, down(0, 0), up(1, -19), api.ErrCanon)
	wantCompareCode(t, up(1, -19), down(0, 0), api.ErrRange)
}

func wantCompareCode(t *testing.T, a, b api.Dec, want api.Errno) {
	t.Helper()
	if n, code := dec.Compare(a, b); n != 0 || code != want {
		t.Errorf("Compare(%v, %v) = %v, %v, not 0, %v", a, b, n, code, want)
	}
}

// wholes are whole numbers, and their one forms.
var wholes = []struct {
	n int
	d api.Dec
}{
	{math.MinInt64, down(1<<63, 0)},
	{math.MinInt64 + 1, down(1<<63-1, 0)},
	{-1e18, down(1, 18)},
	{-1200, down(12, 2)},
	{-5, down(5, 0)},
	{-1, down(1, 0)},
	{0, none},
	{1, up(1, 0)},
	{9, up(9, 0)},
	{10, up(1, 1)},
	{101, up(101, 0)},
	{1000, up(1, 3)},
	{1e17, up(1, 17)},
	{1e18, up(1, 18)},
	{9e18, up(9, 18)},
	{math.MaxInt64 - 7, up((1<<63-8)/100, 2)},
	{math.MaxInt64, up(1<<63-1, 0)},
}

// P3.3: a whole number in its one form.
func TestOf(t *testing.T) {
	for _, c := range wholes {
		if d := dec.Of(c.n); d != c.d || dec.Check(d) != api.OK {
			t.Errorf("Of(%d) = %v, not %v", c.n, d, c.d)
		}
	}
}

// P3.4: the order of whole numbers goes on in that of all.
func TestOfOrder(t *testing.T) {
	for _, a := range wholes {
		for _, b := range wholes {
			if n, code := dec.Compare(dec.Of(a.n), dec.Of(b.n)); n != cmp.Compare(a.n, b.n) || code != api.OK {
				t.Errorf("Compare of %d and %d = %v, %v", a.n, b.n, n, code)
			}
		}
	}
}

var pattern = regexp.MustCompile(`^-?[0-9]+(\.[0-9]+)?$`)

// FuzzParse, P3.2 and P3.4: any text against what the chapter says is written, and its number worked out elsewhere.
func FuzzParse(f *testing.F) {
	for _, c := range texts {
		f.Add(c.s)
	}
	for _, s := range []string{"", "-", "1.", ".5", "1.2.3", "+1", "1e5", "99999999999999999999", "1\n"} {
		f.Add(s)
	}
	f.Fuzz(func(t *testing.T, s string) {
		d, fault := dec.Parse(s)
		is := pattern.MatchString(s)
		if told := fault.Code == api.OK || fault.Code == api.ErrRange; told != is {
			t.Fatalf("Parse(%q) = %v, %v", s, d, fault)
		}
		if !is {
			wantPlace(t, s, fault)
			return
		}
		r, _ := new(big.Rat).SetString(s)
		form, has := formOf(r)
		if d != form || fault.At != 0 || has != (fault.Code == api.OK) {
			t.Fatalf("Parse(%q) = %v, %v, not %v, %v", s, d, fault, form, has)
		}
		if has {
			wantOneText(t, d)
		}
	})
}

// wantPlace: what stands ahead of a wrong byte could be gone on with, and with that byte no more.
func wantPlace(t *testing.T, s string, fault api.Fault) {
	t.Helper()
	goesOn := func(s string) bool { return pattern.MatchString(s + "7") }
	switch {
	case fault.Code == api.ErrForm:
		if fault.At != len(s) || !goesOn(s) {
			t.Fatalf("Parse(%q): %v", s, fault)
		}
	case fault.Code != api.ErrChar || fault.At < 0 || fault.At >= len(s) || !goesOn(s[:fault.At]) || goesOn(s[:fault.At+1]):
		t.Fatalf("Parse(%q): %v", s, fault)
	}
}

func wantOneText(t *testing.T, d api.Dec) {
	t.Helper()
	s, code := dec.Text(d)
	again, fault := dec.Parse(s)
	if code != api.OK || again != d || fault != (api.Fault{}) {
		t.Fatalf("Text(%v) = %q, %v, parsed as %v, %v", d, s, code, again, fault)
	}
}

// FuzzDec, P3.1 and P3.3: any two Decs against their numbers.
func FuzzDec(f *testing.F) {
	f.Add(false, uint64(0), 0, true, uint64(0), 5)
	f.Add(true, uint64(10), 18, false, uint64(greatest), -18)
	f.Add(false, uint64(100), -20, false, uint64(1), 37)
	f.Fuzz(func(t *testing.T, neg bool, coef uint64, exp int, neg2 bool, coef2 uint64, exp2 int) {
		a := api.Dec{Neg: neg, Coef: coef, Exp: exp % 50}
		b := api.Dec{Neg: neg2, Coef: coef2, Exp: exp2 % 50}
		wantForm(t, a)
		wantForm(t, b)
		x, e := dec.Normal(a)
		y, g := dec.Normal(b)
		if e != api.OK || g != api.OK {
			return
		}
		wantOneText(t, x)
		if n, code := dec.Compare(x, y); n != exact(a).Cmp(exact(b)) || code != api.OK {
			t.Fatalf("Compare(%v, %v) = %v, %v", x, y, n, code)
		}
	})
}
