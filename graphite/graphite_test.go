package graphite_test

import (
	"math"
	"math/rand"
	"slices"
	"strconv"
	"strings"
	"testing"

	"forebay/api"
	"forebay/dec"
	"forebay/expr"
	"forebay/graphite"
	"forebay/metric"
	"forebay/num"
)

const nameBytes = "ABCDEFGHIJKLMNOPQRSTUVWXYZabcdefghijklmnopqrstuvwxyz0123456789_.-"

// one is a metric that Graphite can say, if its parts are right and its time is none but 0.
func one(name string, value api.Dec, time int) api.Metric {
	return api.Metric{Name: name, Kind: api.Gauge, Values: []api.Dec{value}, Rate: 1000000, Time: time}
}

// turned is a Gauge that was changed.
func turned(turn func(m *api.Metric)) api.Metric {
	m := one("a", api.Dec{Coef: 1}, 5)
	turn(&m)
	return m
}

// number is a value, and its text.
type number struct {
	value api.Dec
	text  string
}

// numbers are values of 0, above 0 and below, with exponents on both sides.
func numbers() []number {
	l := []number{{api.Dec{}, "0"}}
	for _, n := range []number{
		{api.Dec{Coef: 1}, "1"}, {api.Dec{Coef: 1, Exp: 1}, "10"}, {api.Dec{Coef: 25, Exp: -2}, "0.25"}, {api.Dec{Coef: 15, Exp: -1}, "1.5"},
		{api.Dec{Coef: 101}, "101"}, {api.Dec{Coef: 1, Exp: -18}, "0.000000000000000001"}, {api.Dec{Coef: 3, Exp: 18}, "3000000000000000000"},
		{api.Dec{Coef: math.MaxUint64}, "18446744073709551615"}, {api.Dec{Coef: math.MaxUint64, Exp: -18}, "18.446744073709551615"},
		{api.Dec{Coef: math.MaxUint64, Exp: 18}, "18446744073709551615000000000000000000"},
	} {
		l = append(l, n)
		n.value.Neg = true
		l = append(l, number{n.value, "-" + n.text})
	}
	return l
}

// times are such as may be told.
func times() []int { return []int{1, 2, 9, 10, 1700000000, 1<<31 + 1, 1 << 32, 1<<40 - 1, 1 << 40} }

// kept is a metric of its own, made without the packages that are tested.
func kept(m api.Metric) api.Metric {
	m.Values = append([]api.Dec(nil), m.Values...)
	m.Tags = append([]api.Tag(nil), m.Tags...)
	return m
}

// same holds two metrics against each other, as they stand, without the packages that are tested.
func same(a, b api.Metric) bool {
	return a.Name == b.Name && a.Kind == b.Kind && a.Rate == b.Rate && a.Time == b.Time &&
		slices.Equal(a.Values, b.Values) && slices.Equal(a.Tags, b.Tags)
}

// scribble writes into all memory that a metric has, also behind the lengths of its lists.
func scribble(m api.Metric) {
	for i := range m.Values[:cap(m.Values)] {
		m.Values[:cap(m.Values)][i] = api.Dec{Neg: true, Coef: 4711, Exp: -7}
	}
	for i := range m.Tags[:cap(m.Tags)] {
		m.Tags[:cap(m.Tags)][i] = api.Tag{Key: "over", Value: "written"}
	}
}

// isName asks for the bytes alone, as they are written out.
func isName(s string) bool {
	for i := range len(s) {
		if strings.IndexByte(nameBytes, s[i]) < 0 {
			return false
		}
	}
	return true
}

// parseByItsWords works out what P12.2 says, with what it calls for of the layers below.
func parseByItsWords(s string) (api.Metric, api.Fault) {
	wrong := func(code api.Errno, at int) (api.Metric, api.Fault) {
		return api.Metric{}, api.Fault{Code: code, At: at}
	}
	next := func(from int) int {
		for from < len(s) && s[from] != ' ' {
			from++
		}
		return from
	}
	end := next(0)
	name := s[:end]
	if len(name) < 1 || len(name) > 200 || !isName(name) {
		return wrong(api.ErrName, 0)
	}
	if end == len(s) {
		return wrong(api.ErrForm, len(s))
	}
	from := end + 1
	end = next(from)
	d, f := dec.Parse(s[from:end])
	if f != (api.Fault{}) {
		return wrong(api.ErrValue, from)
	}
	if end == len(s) {
		return wrong(api.ErrForm, len(s))
	}
	from = end + 1
	end = next(from)
	n, f := num.Time(s[from:end])
	if f != (api.Fault{}) {
		return wrong(api.ErrTime, from)
	}
	if end != len(s) {
		return wrong(api.ErrForm, end)
	}
	return one(name, d, n), api.Fault{}
}

func wantNoLine(t *testing.T, m api.Metric, code api.Errno) {
	t.Helper()
	was := kept(m)
	if s, got := graphite.Line(m); s != "" || got != code {
		t.Errorf("Line(%v) is %q, %v, not %v", was, s, got, code)
	}
	if !same(m, was) {
		t.Errorf("%v became %v", was, m)
	}
}

// wantLine asks for P12.3 as well: the line is parsed as the metric.
func wantLine(t *testing.T, m api.Metric, line string) {
	t.Helper()
	was := kept(m)
	if s, code := graphite.Line(m); s != line || code != api.OK {
		t.Errorf("Line(%v) is %q, %v, not %q", was, s, code, line)
	}
	if !same(m, was) {
		t.Errorf("%v became %v", was, m)
	}
	wantParse(t, line, was)
}

// wantParse asks for P12.3 as well: what is parsed is in its one form, Graphite can say it, and its line is parsed as
// the same. It writes into what is parsed, too: the next answer has memory of its own.
func wantParse(t *testing.T, s string, want api.Metric) {
	t.Helper()
	for range 2 {
		m, f := graphite.Parse(s)
		if f != (api.Fault{}) || !same(m, want) {
			t.Errorf("Parse(%q) is %v, %v, not %v", s, m, f, want)
			return
		}
		if !metric.Is(m) || expr.Metric(m, api.Graphite) != api.OK {
			t.Errorf("Parse(%q) is %v: Graphite cannot say it, or not in this form", s, m)
		}
		line, code := graphite.Line(m)
		again, f := graphite.Parse(line)
		if code != api.OK || f != (api.Fault{}) || !same(again, m) {
			t.Errorf("Parse(%q) is %v, whose line %q (%v) is %v, %v", s, m, line, code, again, f)
		}
		scribble(m)
		if !same(again, want) {
			t.Errorf("what is written into what %q is parsed as shows: %v", s, again)
		}
	}
}

func wantFault(t *testing.T, s string, code api.Errno, at int) {
	t.Helper()
	if m, f := graphite.Parse(s); f != (api.Fault{Code: code, At: at}) || !same(m, api.Metric{}) {
		t.Errorf("Parse(%q) is %v, %v, not %v at %d", s, m, f, code, at)
	}
}

// wantByItsWords asks for what the promise's words say.
func wantByItsWords(t *testing.T, s string) {
	t.Helper()
	if m, f := parseByItsWords(s); f == (api.Fault{}) {
		wantParse(t, s, m)
	} else {
		wantFault(t, s, f.Code, f.At)
	}
}

// texts hands on each text of at most so many bytes of an alphabet.
func texts(alphabet string, most int, each func(s string)) {
	each("")
	if most == 0 {
		return
	}
	for i := range len(alphabet) {
		texts(alphabet, most-1, func(s string) { each(alphabet[i:i+1] + s) })
	}
}

// P12.1: values of 0, above it and below, with digits behind the point, at the least time, the greatest and others.
func TestLine(t *testing.T) {
	for _, n := range numbers() {
		for _, time := range times() {
			wantLine(t, one("a.b-c_9", n.value, time), "a.b-c_9 "+n.text+" "+strconv.Itoa(time))
		}
	}
	wantLine(t, one("a", api.Dec{}, 1), "a 0 1")
	wantLine(t, one("a", api.Dec{Neg: true, Coef: 5, Exp: -1}, 1<<40), "a -0.5 1099511627776")
	long := strings.Repeat("n", 200)
	wantLine(t, one(long, api.Dec{Coef: 7}, 3), long+" 7 3")
	wantLine(t, one(nameBytes, api.Dec{Coef: 7}, 3), nameBytes+" 7 3")
}

// P12.1: lists with room behind their lengths stay as they are, and tags that are none may be nil or not.
func TestLineOfListsWithRoom(t *testing.T) {
	values, tags := make([]api.Dec, 9), make([]api.Tag, 9)
	values[0] = api.Dec{Coef: 5}
	wantLine(t, api.Metric{Name: "a", Kind: api.Gauge, Values: values[:1], Rate: 1000000, Tags: tags[:0], Time: 7}, "a 5 7")
	for i := range 9 {
		if i > 0 && values[i] != (api.Dec{}) || tags[i] != (api.Tag{}) {
			t.Errorf("behind the lengths stand %v, %v", values, tags)
		}
	}
}

// P12.1: metrics that are not right, and which error goes ahead.
func TestLineOfNoMetric(t *testing.T) {
	for _, name := range []string{"", " ", "a b", " a", "a ", "a:b", "a|b", "a\n", "a/b", "\xff", strings.Repeat("n", 201)} {
		wantNoLine(t, turned(func(m *api.Metric) { m.Name = name }), api.ErrName)
	}
	for _, kind := range []int{0, 6, -1, math.MinInt, math.MaxInt} {
		wantNoLine(t, turned(func(m *api.Metric) { m.Kind = kind }), api.ErrKind)
	}
	for _, l := range [][]api.Dec{nil, {}, {{Coef: 10}}, {{Neg: true}}, {{Exp: 1}}, {{Coef: 1, Exp: 19}}, {{Coef: 1, Exp: -19}}, {{}, {Coef: 10}}, make([]api.Dec, 65)} {
		wantNoLine(t, turned(func(m *api.Metric) { m.Values = l }), api.ErrValue)
	}
	for _, r := range []int{0, -1, 1, 500000, 999999, 1000001, math.MinInt, math.MaxInt} {
		wantNoLine(t, turned(func(m *api.Metric) { m.Rate = r }), api.ErrRate)
	}
	wantNoLine(t, turned(func(m *api.Metric) { m.Tags = []api.Tag{{}} }), api.ErrTag)
	wantNoLine(t, turned(func(m *api.Metric) { m.Tags = slices.Repeat([]api.Tag{{Key: "k"}}, 33) }), api.ErrTag)
	for _, time := range []int{-1, 1<<40 + 1, math.MinInt, math.MaxInt} {
		wantNoLine(t, turned(func(m *api.Metric) { m.Time = time }), api.ErrTime)
	}
	wantNoLine(t, api.Metric{}, api.ErrName)
	wantNoLine(t, turned(func(m *api.Metric) { m.Kind, m.Values = 9, nil }), api.ErrKind)
	wantNoLine(t, turned(func(m *api.Metric) { m.Rate, m.Time = 0, -1 }), api.ErrRate)
	wantNoLine(t, turned(func(m *api.Metric) { m.Tags, m.Time = []api.Tag{{Key: "k"}}, -1 }), api.ErrTime)
	wantNoLine(t, turned(func(m *api.Metric) { m.Kind, m.Time = api.Counter, -1 }), api.ErrTime)
}

// P12.1: metrics that are right, but Graphite cannot say them.
func TestLineOfWhatCannotBeSaid(t *testing.T) {
	for _, n := range numbers() {
		wantNoLine(t, one("a", n.value, 0), api.ErrExpress)
		for _, kind := range []int{api.Counter, api.Timer, api.Hist, api.Dist} {
			for _, rate := range []int{1000000, 500000} {
				for _, time := range []int{0, 5} {
					wantNoLine(t, api.Metric{Name: "a", Kind: kind, Values: []api.Dec{n.value}, Rate: rate, Time: time}, api.ErrExpress)
				}
			}
		}
		wantNoLine(t, turned(func(m *api.Metric) { m.Values = []api.Dec{n.value, {}} }), api.ErrExpress)
		wantNoLine(t, turned(func(m *api.Metric) { m.Values = slices.Repeat([]api.Dec{n.value}, 64) }), api.ErrExpress)
		wantNoLine(t, turned(func(m *api.Metric) { m.Values, m.Tags = []api.Dec{n.value}, []api.Tag{{Key: "k"}} }), api.ErrExpress)
		wantNoLine(t, turned(func(m *api.Metric) { m.Values, m.Tags = []api.Dec{n.value}, []api.Tag{{Key: "k", Value: "v"}} }), api.ErrExpress)
	}
}

// P12.2: what is parsed, also of numbers that are not written as they would be here.
func TestParse(t *testing.T) {
	wantParse(t, "a 1 5", one("a", api.Dec{Coef: 1}, 5))
	wantParse(t, "a -01.50 1700000000", one("a", api.Dec{Neg: true, Coef: 15, Exp: -1}, 1700000000))
	wantParse(t, "a.b 1000 1", one("a.b", api.Dec{Coef: 1, Exp: 3}, 1))
	wantParse(t, "a 0.0 1099511627776", one("a", api.Dec{}, 1<<40))
	wantParse(t, "a -0 7", one("a", api.Dec{}, 7))
	wantParse(t, "1 2 3", one("1", api.Dec{Coef: 2}, 3))
	wantParse(t, "- -2 3", one("-", api.Dec{Neg: true, Coef: 2}, 3))
	wantParse(t, ". "+strings.Repeat("0", 9000)+"2 3", one(".", api.Dec{Coef: 2}, 3))
	wantParse(t, "_ 2."+strings.Repeat("0", 9000)+" 3", one("_", api.Dec{Coef: 2}, 3))
}

// P12.2: no text, and blanks alone.
func TestParseNothing(t *testing.T) {
	for n := range 10 {
		wantFault(t, strings.Repeat(" ", n), api.ErrName, 0)
		wantFault(t, strings.Repeat(" ", n)+"\n", api.ErrName, 0)
		if n > 0 {
			wantFault(t, strings.Repeat(" ", n)+"a 1 5", api.ErrName, 0)
		}
	}
}

// P12.2: each byte in a name.
func TestParseName(t *testing.T) {
	for i := range 256 {
		b := string([]byte{byte(i)})
		for _, name := range []string{b, "a" + b, b + "a", "a" + b + "a"} {
			switch {
			case strings.Contains(nameBytes, b):
				wantParse(t, name+" 1 5", one(name, api.Dec{Coef: 1}, 5))
				wantFault(t, name, api.ErrForm, len(name))
			case b != " ":
				for _, behind := range []string{"", " ", " 1", " x", " 1 ", " 1 5", " 1 0", " 1 5 "} {
					wantFault(t, name+behind, api.ErrName, 0)
				}
			}
		}
	}
	// the name ends at the first blank
	wantFault(t, "a b 1 5", api.ErrValue, 2)
	wantFault(t, "a /b 1 5", api.ErrValue, 2)
	// and at no other byte
	wantFault(t, "a\t1\t5", api.ErrName, 0)
	wantFault(t, "a:1 5", api.ErrName, 0)
	wantFault(t, "a\u00a01 5", api.ErrName, 0)
}

// P12.2: names of 200 and 201 bytes, and lines without a blank, or with a single one.
func TestParseLengthOfName(t *testing.T) {
	for _, n := range []int{1, 2, 199, 200, 201, 202, 400, 9000} {
		name := strings.Repeat("n", n)
		if n > 200 {
			for _, behind := range []string{"", " ", " 1", " 1 ", " 1 5"} {
				wantFault(t, name+behind, api.ErrName, 0)
			}
			continue
		}
		wantFault(t, name, api.ErrForm, n)
		wantFault(t, name+" ", api.ErrValue, n+1)
		wantFault(t, name+" 1", api.ErrForm, n+2)
		wantFault(t, name+" 1 ", api.ErrTime, n+3)
		wantParse(t, name+" 1 5", one(name, api.Dec{Coef: 1}, 5))
		wantFault(t, name+" 1 5 ", api.ErrForm, n+4)
	}
}

// P12.2: values that dec.Parse refuses, wherever in the value the fault is.
func TestParseValue(t *testing.T) {
	for _, value := range []string{"", "-", "+1", "1.", ".5", "1.2.3", "--1", "1-", "1e3", "0x1", "1,5", "1:2", ":", "x", "12345x", "\xff", "NaN", "1\n", "\t1",
		"99999999999999999999", "0.0000000000000000001", strings.Repeat("1", 300)} {
		for _, name := range []string{"a", "name"} {
			at := len(name) + 1
			for _, behind := range []string{"", " ", " 5", " 0", " x", " 5 ", " 5 6", "  ", "\n"} {
				wantFault(t, name+" "+value+behind, api.ErrValue, at)
			}
		}
	}
	for _, value := range []string{"1", "-1", "-0", "0.5", "00"} {
		wantFault(t, "a "+value, api.ErrForm, 2+len(value))
		wantFault(t, "name "+value, api.ErrForm, 5+len(value))
	}
}

// P12.2: times that num.Time refuses, wherever in the time the fault is.
func TestParseTime(t *testing.T) {
	for _, time := range []string{"", "0", "00", "01", "05", "-1", "-0", "+1", "1.0", "1.", "x", "5x", "x5", "5\n", "5\r", "5\t", "\t5", "\xff", "1e3",
		"1099511627777", "9999999999999", "9223372036854775808", "18446744073709551617", strings.Repeat("9", 300)} {
		for _, ahead := range []string{"a 1", "name -1.50"} {
			at := len(ahead) + 1
			for _, behind := range []string{"", " ", " 5", "  ", " x", " \n"} {
				wantFault(t, ahead+" "+time+behind, api.ErrTime, at)
			}
		}
	}
	for _, time := range times() {
		wantParse(t, "a 1 "+strconv.Itoa(time), one("a", api.Dec{Coef: 1}, time))
	}
}

// P12.2: a blank behind the time, with something behind it and with nothing.
func TestParseBehindTheTime(t *testing.T) {
	for _, line := range []string{"a 1 5", "name -0.50 1099511627776"} {
		for _, behind := range []string{"", " ", "  ", "x", "6", "0", "a 1 5", "\n", "\x00", strings.Repeat(" x", 9000)} {
			wantFault(t, line+" "+behind, api.ErrForm, len(line))
		}
	}
}

// P12.2: two blanks where one has to stand, and other bytes where a blank has to.
func TestParseBlanks(t *testing.T) {
	wantFault(t, " a 1 5", api.ErrName, 0)
	wantFault(t, "a  1 5", api.ErrValue, 2)
	wantFault(t, "a 1  5", api.ErrTime, 4)
	wantFault(t, "a  1  5", api.ErrValue, 2)
	wantFault(t, "a 1 5  ", api.ErrForm, 5)
	wantFault(t, "a   ", api.ErrValue, 2)
	wantFault(t, "a 1   ", api.ErrTime, 4)
	for i := range 256 {
		b := string([]byte{byte(i)})
		if b == " " {
			continue
		}
		if strings.Contains(nameBytes, b) {
			wantByItsWords(t, "a"+b+"1 5")
			wantByItsWords(t, "a 1"+b+"5")
			continue
		}
		wantFault(t, "a"+b+"1 5", api.ErrName, 0)
		wantFault(t, "a 1"+b+"5", api.ErrValue, 2)
		wantFault(t, "a 1 5"+b, api.ErrTime, 4)
		wantFault(t, "a 1 5"+b+"6", api.ErrTime, 4)
	}
	// a line feed is not of the line
	wantFault(t, "a 1 5\n", api.ErrTime, 4)
	wantFault(t, "a 1\n", api.ErrValue, 2)
	wantFault(t, "a\n", api.ErrName, 0)
}

// piece is a part of a line, how that is wrong (OK: it is not), and at which of its bytes.
type piece struct {
	text string
	code api.Errno
	at   int
}

// P12.2: each fault beside each one that is told later.
func TestOrderOfFaults(t *testing.T) {
	long := strings.Repeat("n", 200)
	names := []piece{{"a", api.OK, 0}, {long, api.OK, 0}, {"", api.ErrName, 0}, {long + "n", api.ErrName, 0}, {"a:b", api.ErrName, 0}, {"\xff", api.ErrName, 0}, {"a/b", api.ErrName, 0}}
	values := []piece{{" 1", api.OK, 0}, {" -0.0", api.OK, 0}, {" ", api.ErrValue, 1}, {" x", api.ErrValue, 1}, {" 1.", api.ErrValue, 1}, {" -", api.ErrValue, 1}, {" 12\n", api.ErrValue, 1}, {"", api.ErrForm, 0}}
	times := []piece{{" 5", api.OK, 0}, {" 1099511627776", api.OK, 0}, {" ", api.ErrTime, 1}, {" 0", api.ErrTime, 1}, {" 05", api.ErrTime, 1}, {" 5x", api.ErrTime, 1}, {" 1099511627777", api.ErrTime, 1}, {"", api.ErrForm, 0}}
	ends := []piece{{"", api.OK, 0}, {" ", api.ErrForm, 0}, {" 5", api.ErrForm, 0}, {"  ", api.ErrForm, 0}}
	for _, name := range names {
		for _, value := range values {
			if value.text == "" {
				wantFirst(t, name, value)
				continue
			}
			for _, time := range times {
				if time.text == "" {
					wantFirst(t, name, value, time)
					continue
				}
				for _, end := range ends {
					wantFirst(t, name, value, time, end)
				}
			}
		}
	}
}

// wantFirst asks for the fault of the first piece that has one; a line whose pieces have none is parsed.
func wantFirst(t *testing.T, pieces ...piece) {
	t.Helper()
	s := ""
	wrong := api.Fault{}
	for _, p := range pieces {
		if wrong == (api.Fault{}) && p.code != api.OK {
			wrong = api.Fault{Code: p.code, At: len(s) + p.at}
		}
		s += p.text
	}
	m, f := graphite.Parse(s)
	if f != wrong || (f == api.Fault{}) != metric.Is(m) || f != (api.Fault{}) && !same(m, api.Metric{}) {
		t.Errorf("Parse(%q) is %v, %v, not %v", s, m, f, wrong)
	}
}

// P12.2, P12.3: a line that is cut off at each of its bytes.
func TestBeginnings(t *testing.T) {
	line := "ab -1.5 170"
	for n, want := range []api.Fault{
		{Code: api.ErrName}, {Code: api.ErrForm, At: 1}, {Code: api.ErrForm, At: 2}, {Code: api.ErrValue, At: 3}, {Code: api.ErrValue, At: 3}, {Code: api.ErrForm, At: 5},
		{Code: api.ErrValue, At: 3}, {Code: api.ErrForm, At: 7}, {Code: api.ErrTime, At: 8}, {}, {}, {},
	} {
		m, f := graphite.Parse(line[:n])
		if f != want || f != (api.Fault{}) && !same(m, api.Metric{}) {
			t.Errorf("Parse(%q) is %v, %v, not %v", line[:n], m, f, want)
		}
		wantByItsWords(t, line[:n])
		wantByItsWords(t, line[n:])
	}
	wantParse(t, line[:9], one("ab", api.Dec{Neg: true, Coef: 15, Exp: -1}, 1))
	wantParse(t, line[:10], one("ab", api.Dec{Neg: true, Coef: 15, Exp: -1}, 17))
	wantFault(t, line+"\n", api.ErrTime, 8)
	wantFault(t, line+" ", api.ErrForm, 11)
}

// P12.2: all short texts of some bytes, and all short endings of some lines, by the promise's words.
func TestParseByItsWords(t *testing.T) {
	both := func(s string) { wantByItsWords(t, s) }
	texts("a 1-.0", 7, both)
	texts("a 15/\n", 6, both)
	for _, line := range []string{"a ", "a 1", "a -1 ", "a 1 5", "a 1 5 "} {
		texts("01.- a\n", 5, func(s string) { both(line + s) })
	}
}

// P12.3: lines of one number are parsed as one metric, and have one line that is written.
func TestOneLine(t *testing.T) {
	for _, n := range numbers() {
		for _, time := range times() {
			want := one("a.b", n.value, time)
			line := "a.b " + n.text + " " + strconv.Itoa(time)
			for _, value := range waysOfNumber(n.text) {
				s := "a.b " + value + " " + strconv.Itoa(time)
				wantParse(t, s, want)
				m, _ := graphite.Parse(s)
				if got, code := graphite.Line(m); got != line || code != api.OK {
					t.Errorf("Parse(%q) is %v, whose line is %q, %v, not %q", s, m, got, code, line)
				}
			}
		}
	}
}

// waysOfNumber are texts of one number: with zeros ahead of it, and behind its point; 0 with a sign, too.
func waysOfNumber(text string) []string {
	digits, below := strings.CutPrefix(text, "-")
	signs := []string{""}
	if below {
		signs = []string{"-"}
	}
	if text == "0" {
		signs = []string{"", "-"}
	}
	point := "."
	if strings.Contains(digits, ".") {
		point = ""
	}
	ways := []string{}
	for _, sign := range signs {
		for _, ahead := range []string{"", "0", "00", "0000000000000000000000"} {
			ways = append(ways, sign+ahead+digits)
			for _, behind := range []string{"0", "00", "0000000000000000000000"} {
				ways = append(ways, sign+ahead+digits+point+behind)
			}
		}
	}
	return ways
}

// P12.3: metrics at random, there and back; no two have one line.
func TestThereAndBack(t *testing.T) {
	r := rand.New(rand.NewSource(12))
	told := map[string]api.Metric{}
	for range 20000 {
		name := make([]byte, 1+r.Intn(3))
		for i := range name {
			name[i] = nameBytes[r.Intn(len(nameBytes))]
		}
		d, code := dec.Normal(api.Dec{Neg: r.Intn(2) == 0, Coef: r.Uint64() >> r.Intn(64), Exp: r.Intn(37) - 18})
		if code != api.OK {
			continue
		}
		m := one(string(name), d, 1+r.Intn(1<<40)>>r.Intn(40))
		line, code := graphite.Line(m)
		if code != api.OK || strings.Contains(line, "\n") {
			t.Fatalf("Line(%v) is %q, %v", m, line, code)
		}
		wantLine(t, m, line)
		if other, ok := told[line]; ok && !same(other, m) {
			t.Errorf("%q is the line of %v and of %v", line, other, m)
		}
		told[line] = m
	}
	if len(told) < 10000 {
		t.Errorf("only %d lines", len(told))
	}
}

// P12.2, P12.3: lines of which some bytes were changed, by the promise's words.
func TestChangedLines(t *testing.T) {
	r := rand.New(rand.NewSource(13))
	const alphabet = "aZ09_.-:|@/# \t\r\n\x00\xff"
	for _, line := range []string{"a.b -1.50 1700000000", "a 1 5", "x-y 0.001 1099511627776", "c 10 20"} {
		for range 20000 {
			b := []byte(line)
			for range 1 + r.Intn(3) {
				at := r.Intn(len(b))
				switch other := alphabet[r.Intn(len(alphabet))]; r.Intn(3) {
				case 0:
					b[at] = other
				case 1:
					b = slices.Insert(b, at, other)
				default:
					b = slices.Delete(b, at, at+1)
					b = append(b, other)
				}
			}
			wantByItsWords(t, string(b))
		}
	}
}

// The chapter's examples.
func TestExamples(t *testing.T) {
	m := one("a.b", api.Dec{Neg: true, Coef: 15, Exp: -1}, 1700000000)
	wantParse(t, `a.b -1.50 1700000000`, m)
	wantLine(t, m, `a.b -1.5 1700000000`)
	wantFault(t, `a 1 0`, api.ErrTime, 4)
	wantFault(t, `a  1 5`, api.ErrValue, 2)
	wantFault(t, `a 1 5 `, api.ErrForm, 5)
}

// P12.2, P12.3 at any text.
func FuzzParse(f *testing.F) {
	for _, s := range []string{"", " ", "a", "a ", "a 1", "a 1 ", "a 1 5", "a 1 5 ", "a  1 5", "a 1 0", "a.b -1.50 1700000000", "a 1 05", "a 1 1099511627777", "a -0 5 6", "a 1 5\n"} {
		f.Add(s)
	}
	f.Fuzz(wantByItsWords)
}
