package statsd_test

import (
	"math"
	"math/rand"
	"slices"
	"strconv"
	"strings"
	"testing"

	"forebay/api"
	"forebay/dec"
	"forebay/expr"
	"forebay/metric"
	"forebay/num"
	"forebay/statsd"
)

const nameBytes = "ABCDEFGHIJKLMNOPQRSTUVWXYZabcdefghijklmnopqrstuvwxyz0123456789_.-"

// one is a metric that StatsD can say, if its kind and value are so.
func one(name string, kind int, value api.Dec, rate int) api.Metric {
	return api.Metric{Name: name, Kind: kind, Values: []api.Dec{value}, Rate: rate}
}

// kinds are those that have a word.
func kinds() []int { return []int{api.Counter, api.Gauge, api.Timer, api.Hist} }

// wordOf is what the chapter says of a kind's word.
func wordOf(kind int) string { return []string{"", "c", "g", "ms", "h"}[kind] }

// number is a value, and its text.
type number struct {
	value api.Dec
	text  string
}

// numbers are values of 0, above 0, and with exponents on both sides.
func numbers() []number {
	return []number{
		{api.Dec{}, "0"}, {api.Dec{Coef: 1}, "1"}, {api.Dec{Coef: 1, Exp: 1}, "10"}, {api.Dec{Coef: 25, Exp: -2}, "0.25"}, {api.Dec{Coef: 15, Exp: -1}, "1.5"},
		{api.Dec{Coef: 101}, "101"}, {api.Dec{Coef: 1, Exp: -18}, "0.000000000000000001"}, {api.Dec{Coef: 3, Exp: 18}, "3000000000000000000"},
		{api.Dec{Coef: math.MaxUint64}, "18446744073709551615"}, {api.Dec{Coef: math.MaxUint64, Exp: -18}, "18.446744073709551615"},
		{api.Dec{Coef: math.MaxUint64, Exp: 18}, "18446744073709551615000000000000000000"},
	}
}

// below is the same number below 0.
func (n number) below() number {
	n.value.Neg = true
	n.text = "-" + n.text
	return n
}

// rate is a rate, and its text.
type rate struct {
	millionths int
	text       string
}

// rates are those that are told.
func rates() []rate {
	return []rate{{1, "0.000001"}, {999999, "0.999999"}, {500000, "0.5"}, {100000, "0.1"}, {10, "0.00001"}, {120000, "0.12"}, {100001, "0.100001"}}
}

// kept is a metric of its own, made without the packages that are tested.
func kept(m api.Metric) api.Metric {
	m.Values = append([]api.Dec(nil), m.Values...)
	m.Tags = append([]api.Tag(nil), m.Tags...)
	return m
}

// same holds two metrics against each other, as they stand, without the packages that are tested.
func same(a, b api.Metric) bool {
	return a.Name == b.Name && a.Kind == b.Kind && a.Rate == b.Rate && a.Time == b.Time &&
		slices.Equal(a.Values, b.Values) && slices.Equal(a.Tags, b.Tags)
}

// scribble writes into all memory that a metric has, also behind the lengths of its lists.
func scribble(m api.Metric) {
	for i := range m.Values[:cap(m.Values)] {
		m.Values[:cap(m.Values)][i] = api.Dec{Neg: true, Coef: 4711, Exp: -7}
	}
	for i := range m.Tags[:cap(m.Tags)] {
		m.Tags[:cap(m.Tags)][i] = api.Tag{Key: "over", Value: "written"}
	}
}

// isName asks for the bytes alone, as they are written out.
func isName(s string) bool {
	for i := range len(s) {
		if strings.IndexByte(nameBytes, s[i]) < 0 {
			return false
		}
	}
	return true
}

// parseByItsWords works out what P10.2 says, with what it calls for of the layers below.
func parseByItsWords(s string) (api.Metric, api.Fault) {
	wrong := func(code api.Errno, at int) (api.Metric, api.Fault) {
		return api.Metric{}, api.Fault{Code: code, At: at}
	}
	next := func(b string, from int) int {
		if i := strings.Index(s[from:], b); i >= 0 {
			return from + i
		}
		return len(s)
	}
	colon := next(":", 0)
	if colon < 1 || colon > 200 || !isName(s[:colon]) {
		return wrong(api.ErrName, 0)
	}
	if colon == len(s) {
		return wrong(api.ErrForm, len(s))
	}
	value := colon + 1
	bar := next("|", value)
	d, f := dec.Parse(s[value:bar])
	if f != (api.Fault{}) {
		return wrong(api.ErrValue, value)
	}
	if bar == len(s) {
		return wrong(api.ErrForm, len(s))
	}
	word := bar + 1
	bar = next("|", word)
	kind := slices.Index([]string{"c", "g", "ms", "h"}, s[word:bar]) + 1
	if kind == 0 {
		return wrong(api.ErrKind, word)
	}
	if s[word:bar] == "g" && s[value] == '-' {
		return wrong(api.ErrExpress, value)
	}
	if bar == len(s) {
		return one(s[:colon], kind, d, 1000000), api.Fault{}
	}
	if !strings.HasPrefix(s[bar+1:], "@") {
		return wrong(api.ErrForm, bar+1)
	}
	told := bar + 2
	bar = next("|", told)
	n, f := num.Rate(s[told:bar])
	if f != (api.Fault{}) || kind == 2 && n != 1000000 {
		return wrong(api.ErrRate, told)
	}
	if bar != len(s) {
		return wrong(api.ErrForm, bar)
	}
	return one(s[:colon], kind, d, n), api.Fault{}
}

func wantWord(t *testing.T, kind int, word string, code api.Errno) {
	t.Helper()
	if got, gotCode := statsd.Word(kind); got != word || gotCode != code {
		t.Errorf("Word(%d) is %q, %v, not %q, %v", kind, got, gotCode, word, code)
	}
}

func wantKind(t *testing.T, s string, kind int, code api.Errno) {
	t.Helper()
	for range 5 {
		if got, gotCode := statsd.Kind(s); got != kind || gotCode != code {
			t.Errorf("Kind(%q) is %d, %v, not %d, %v", s, got, gotCode, kind, code)
		}
	}
}

func wantNoLine(t *testing.T, m api.Metric, code api.Errno) {
	t.Helper()
	was := kept(m)
	if s, got := statsd.Line(m); s != "" || got != code {
		t.Errorf("Line(%v) is %q, %v, not %v", was, s, got, code)
	}
	if !same(m, was) {
		t.Errorf("%v became %v", was, m)
	}
}

// wantLine asks for P10.3 as well: the line is parsed as the metric.
func wantLine(t *testing.T, m api.Metric, line string) {
	t.Helper()
	was := kept(m)
	if s, code := statsd.Line(m); s != line || code != api.OK {
		t.Errorf("Line(%v) is %q, %v, not %q", was, s, code, line)
	}
	if !same(m, was) {
		t.Errorf("%v became %v", was, m)
	}
	wantParse(t, line, was)
}

// wantParse asks for P10.3 as well: what is parsed is in its one form, StatsD can say it, and its line is parsed as the
// same. It writes into what is parsed, too: the next answer has memory of its own.
func wantParse(t *testing.T, s string, want api.Metric) {
	t.Helper()
	for range 2 {
		m, f := statsd.Parse(s)
		if f != (api.Fault{}) || !same(m, want) {
			t.Errorf("Parse(%q) is %v, %v, not %v", s, m, f, want)
			return
		}
		if !metric.Is(m) || expr.Metric(m, api.StatsD) != api.OK {
			t.Errorf("Parse(%q) is %v: StatsD cannot say it, or not in this form", s, m)
		}
		line, code := statsd.Line(m)
		again, f := statsd.Parse(line)
		if code != api.OK || f != (api.Fault{}) || !same(again, m) {
			t.Errorf("Parse(%q) is %v, whose line %q (%v) is %v, %v", s, m, line, code, again, f)
		}
		scribble(m)
		if !same(again, want) {
			t.Errorf("what is written into what %q is parsed as shows: %v", s, again)
		}
	}
}

func wantFault(t *testing.T, s string, code api.Errno, at int) {
	t.Helper()
	if m, f := statsd.Parse(s); f != (api.Fault{Code: code, At: at}) || !same(m, api.Metric{}) {
		t.Errorf("Parse(%q) is %v, %v, not %v at %d", s, m, f, code, at)
	}
}

// wantByItsWords asks for what the promise's words say.
func wantByItsWords(t *testing.T, s string) {
	t.Helper()
	if m, f := parseByItsWords(s); f == (api.Fault{}) {
		wantParse(t, s, m)
	} else {
		wantFault(t, s, f.Code, f.At)
	}
}

// texts hands on each text of at most so many bytes of an alphabet.
func texts(alphabet string, most int, each func(s string)) {
	each("")
	if most == 0 {
		return
	}
	for i := range len(alphabet) {
		texts(alphabet, most-1, func(s string) { each(alphabet[i:i+1] + s) })
	}
}

// P10.1: each kind's word, and none of a Dist and of numbers that are no kind.
func TestWord(t *testing.T) {
	wantWord(t, api.Counter, "c", api.OK)
	wantWord(t, api.Gauge, "g", api.OK)
	wantWord(t, api.Timer, "ms", api.OK)
	wantWord(t, api.Hist, "h", api.OK)
	wantWord(t, api.Dist, "", api.ErrKind)
	for _, kind := range []int{0, -1, -2, -4, 6, 7, 255, 256, 257, 1<<16 + 1, 1<<32 + 1, -(1 << 32) + 2, math.MinInt, math.MinInt + 1, math.MaxInt} {
		wantWord(t, kind, "", api.ErrKind)
	}
}

// P10.1: each word's kind, and none of a text that is no word.
func TestKind(t *testing.T) {
	for _, kind := range kinds() {
		word := wordOf(kind)
		wantKind(t, word, kind, api.OK)
		wantKind(t, strings.ToUpper(word), 0, api.ErrKind)
		for i := range 256 {
			b := string([]byte{byte(i)})
			wantKind(t, word+b, 0, api.ErrKind)
			if b+word != "ms" {
				wantKind(t, b+word, 0, api.ErrKind)
			}
		}
		wantKind(t, word+word, 0, api.ErrKind)
	}
	for _, s := range []string{"", "m", "s", "d", "Ms", "mS", "sm", "C", "cg", "counter", "\x00", " ", "1", "\u0441", strings.Repeat("c", 1000)} {
		wantKind(t, s, 0, api.ErrKind)
	}
}

// P10.1: of all short texts just the words have a kind.
func TestKindOfShortTexts(t *testing.T) {
	all := make([]byte, 256)
	for i := range all {
		all[i] = byte(i)
	}
	texts(string(all), 2, func(s string) {
		kind, code := statsd.Kind(s)
		want := slices.Index([]string{"c", "g", "ms", "h"}, s) + 1
		if kind != want || (code == api.OK) != (want != 0) || want == 0 && code != api.ErrKind {
			t.Errorf("Kind(%q) is %d, %v", s, kind, code)
		}
	})
}

// P10.1: each kind with each value, and with the rate of 1000000 and others.
func TestLine(t *testing.T) {
	for _, kind := range kinds() {
		word := wordOf(kind)
		for _, n := range numbers() {
			wantLine(t, one("a.b-c_9", kind, n.value, 1000000), "a.b-c_9:"+n.text+"|"+word)
			if kind == api.Gauge {
				continue
			}
			for _, r := range rates() {
				wantLine(t, one("a", kind, n.value, r.millionths), "a:"+n.text+"|"+word+"|@"+r.text)
			}
			if n.value.Coef == 0 {
				continue
			}
			n = n.below()
			wantLine(t, one("a", kind, n.value, 1000000), "a:"+n.text+"|"+word)
			wantLine(t, one("a", kind, n.value, 250000), "a:"+n.text+"|"+word+"|@0.25")
		}
	}
	long := strings.Repeat("n", 200)
	wantLine(t, one(long, api.Hist, api.Dec{Coef: 7}, 1), long+":7|h|@0.000001")
	wantLine(t, one(nameBytes, api.Gauge, api.Dec{Coef: 7}, 1000000), nameBytes+":7|g")
}

// P10.1: lists with room behind their lengths stay as they are, and tags that are none may be nil or not.
func TestLineOfListsWithRoom(t *testing.T) {
	values, tags := make([]api.Dec, 9), make([]api.Tag, 9)
	values[0] = api.Dec{Coef: 5}
	wantLine(t, api.Metric{Name: "a", Kind: api.Counter, Values: values[:1], Rate: 1000000, Tags: tags[:0]}, "a:5|c")
	for i := range 9 {
		if i > 0 && values[i] != (api.Dec{}) || tags[i] != (api.Tag{}) {
			t.Errorf("behind the lengths stand %v, %v", values, tags)
		}
	}
}

// turned is a Counter that was changed.
func turned(turn func(m *api.Metric)) api.Metric {
	m := one("a", api.Counter, api.Dec{Coef: 1}, 1000000)
	turn(&m)
	return m
}

// P10.1: metrics that are not right, and which error goes ahead.
func TestLineOfNoMetric(t *testing.T) {
	for _, name := range []string{"", "a b", "a:b", "a|b", "a\n", "a/b", "\xff", strings.Repeat("n", 201)} {
		wantNoLine(t, turned(func(m *api.Metric) { m.Name = name }), api.ErrName)
	}
	for _, kind := range []int{0, 6, -1, math.MinInt, math.MaxInt} {
		wantNoLine(t, turned(func(m *api.Metric) { m.Kind = kind }), api.ErrKind)
	}
	for _, l := range [][]api.Dec{nil, {}, {{Coef: 10}}, {{Neg: true}}, {{Exp: 1}}, {{Coef: 1, Exp: 19}}, {{Coef: 1, Exp: -19}}, make([]api.Dec, 65)} {
		wantNoLine(t, turned(func(m *api.Metric) { m.Values = l }), api.ErrValue)
	}
	for _, r := range []int{0, -1, 1000001, math.MinInt, math.MaxInt} {
		wantNoLine(t, turned(func(m *api.Metric) { m.Rate = r }), api.ErrRate)
	}
	wantNoLine(t, one("a", api.Gauge, api.Dec{Coef: 1}, 500000), api.ErrRate)
	wantNoLine(t, one("a", api.Gauge, api.Dec{Neg: true, Coef: 1}, 999999), api.ErrRate)
	wantNoLine(t, turned(func(m *api.Metric) { m.Tags = []api.Tag{{}} }), api.ErrTag)
	wantNoLine(t, turned(func(m *api.Metric) { m.Tags = slices.Repeat([]api.Tag{{Key: "k"}}, 33) }), api.ErrTag)
	for _, time := range []int{-1, 1<<40 + 1, math.MinInt, math.MaxInt} {
		wantNoLine(t, turned(func(m *api.Metric) { m.Time = time }), api.ErrTime)
	}
	wantNoLine(t, api.Metric{}, api.ErrName)
	wantNoLine(t, turned(func(m *api.Metric) { m.Kind, m.Values = 9, nil }), api.ErrKind)
	wantNoLine(t, turned(func(m *api.Metric) { m.Rate, m.Time = 0, -1 }), api.ErrRate)
	wantNoLine(t, turned(func(m *api.Metric) { m.Tags, m.Time = []api.Tag{{Key: "k"}}, -1 }), api.ErrTime)
}

// P10.1: metrics that are right, but StatsD cannot say them.
func TestLineOfWhatCannotBeSaid(t *testing.T) {
	for _, n := range numbers() {
		wantNoLine(t, one("a", api.Dist, n.value, 1000000), api.ErrExpress)
		wantNoLine(t, one("a", api.Dist, n.value, 500000), api.ErrExpress)
		if n.value.Coef != 0 {
			wantNoLine(t, one("a", api.Gauge, n.below().value, 1000000), api.ErrExpress)
		}
	}
	for _, kind := range kinds() {
		for _, turn := range []func(m *api.Metric){
			func(m *api.Metric) { m.Values = []api.Dec{{}, {}} },
			func(m *api.Metric) { m.Values = make([]api.Dec, 64) },
			func(m *api.Metric) { m.Tags = []api.Tag{{Key: "k"}} },
			func(m *api.Metric) { m.Time = 1 },
			func(m *api.Metric) { m.Time = 1 << 40 },
		} {
			wantNoLine(t, turned(func(m *api.Metric) { m.Kind = kind; turn(m) }), api.ErrExpress)
		}
	}
}

// P10.2: what is parsed, also of numbers and rates that are not written as they would be here.
func TestParse(t *testing.T) {
	wantParse(t, "a:1|c", one("a", api.Counter, api.Dec{Coef: 1}, 1000000))
	wantParse(t, "a:-01.50|ms", one("a", api.Timer, api.Dec{Neg: true, Coef: 15, Exp: -1}, 1000000))
	wantParse(t, "a:1000|h|@0.000100", one("a", api.Hist, api.Dec{Coef: 1, Exp: 3}, 100))
	wantParse(t, "c:0.0|c|@1", one("c", api.Counter, api.Dec{}, 1000000))
	wantParse(t, "g:1|g|@1", one("g", api.Gauge, api.Dec{Coef: 1}, 1000000))
	wantParse(t, "g:0|g", one("g", api.Gauge, api.Dec{}, 1000000))
	wantParse(t, "1:2|ms|@0.3", one("1", api.Timer, api.Dec{Coef: 2}, 300000))
	wantParse(t, "-:2|c", one("-", api.Counter, api.Dec{Coef: 2}, 1000000))
	wantParse(t, ".:"+strings.Repeat("0", 9000)+"2|c", one(".", api.Counter, api.Dec{Coef: 2}, 1000000))
	long := strings.Repeat("n", 200)
	wantParse(t, long+":2|c", one(long, api.Counter, api.Dec{Coef: 2}, 1000000))
}

// P10.2: each byte in a name.
func TestParseName(t *testing.T) {
	for i := range 256 {
		b := string([]byte{byte(i)})
		for _, name := range []string{b, "a" + b, b + "a", "a" + b + "a"} {
			switch {
			case strings.Contains(nameBytes, b):
				wantParse(t, name+":1|c", one(name, api.Counter, api.Dec{Coef: 1}, 1000000))
				wantFault(t, name, api.ErrForm, len(name))
			case b != ":":
				wantFault(t, name+":1|c", api.ErrName, 0)
				wantFault(t, name, api.ErrName, 0)
			}
		}
	}
	// the name ends at the first colon
	wantFault(t, ":", api.ErrName, 0)
	wantFault(t, "::1|c", api.ErrName, 0)
	wantFault(t, "a::1|c", api.ErrValue, 2)
	wantFault(t, "a:b:1|c", api.ErrValue, 2)
	// and at no bar
	wantFault(t, "a|c", api.ErrName, 0)
	wantFault(t, "a|c:1|c", api.ErrName, 0)
	wantFault(t, "|", api.ErrName, 0)
}

// P10.2: names of 200 and 201 bytes, and lines without a colon.
func TestParseLengthOfName(t *testing.T) {
	for _, n := range []int{1, 2, 199, 200, 201, 202, 400, 9000} {
		name := strings.Repeat("n", n)
		if n > 200 {
			wantFault(t, name, api.ErrName, 0)
			wantFault(t, name+":", api.ErrName, 0)
			wantFault(t, name+":1|c", api.ErrName, 0)
			continue
		}
		wantFault(t, name, api.ErrForm, n)
		wantFault(t, name+":", api.ErrValue, n+1)
		wantParse(t, name+":1|c", one(name, api.Counter, api.Dec{Coef: 1}, 1000000))
	}
	wantFault(t, "", api.ErrName, 0)
}

// P10.2: values that dec.Parse refuses, wherever in the value the fault is.
func TestParseValue(t *testing.T) {
	for _, value := range []string{"", "-", "+1", "1.", ".5", "1.2.3", "--1", "1-", "1e3", "0x1", " 1", "1 ", "1,5", "1:2", ":", "x", "12345x", "\xff",
		"99999999999999999999", "0.0000000000000000001", strings.Repeat("1", 300), "1@", "1\n"} {
		for _, name := range []string{"a", "name"} {
			at := len(name) + 1
			wantFault(t, name+":"+value, api.ErrValue, at)
			for _, behind := range []string{"", "c", "g", "ms|@0.1", "x", "|", "c|x"} {
				wantFault(t, name+":"+value+"|"+behind, api.ErrValue, at)
			}
		}
	}
	for _, value := range []string{"1", "-1", "-0", "0.5", "00"} {
		wantFault(t, "a:"+value, api.ErrForm, 2+len(value))
		wantFault(t, "name:"+value, api.ErrForm, 5+len(value))
	}
}

// P10.2: each byte in a word.
func TestParseWord(t *testing.T) {
	for i := range 256 {
		b := string([]byte{byte(i)})
		for _, word := range []string{b, "m" + b, b + "s", "c" + b, b + "g", "h" + b, "ms" + b} {
			if strings.Contains(word, "|") {
				continue
			}
			kind, _ := statsd.Kind(word)
			if kind == 0 {
				wantFault(t, "a:1.5|"+word, api.ErrKind, 6)
				wantFault(t, "a:-1|"+word+"|@0.5", api.ErrKind, 5)
				wantFault(t, "a:1|"+word+"|x", api.ErrKind, 4)
				continue
			}
			wantParse(t, "a:1.5|"+word, one("a", kind, api.Dec{Coef: 15, Exp: -1}, 1000000))
		}
	}
	wantFault(t, "a:1|", api.ErrKind, 4)
	wantFault(t, "a:1||", api.ErrKind, 4)
	wantFault(t, "a:1||@0.5", api.ErrKind, 4)
	wantFault(t, "a:1|||", api.ErrKind, 4)
	wantFault(t, "a:1|@0.5", api.ErrKind, 4)
	wantFault(t, "a:1|@0.5|c", api.ErrKind, 4)
}

// P10.2: a gauge whose value begins with a sign, and other kinds with it.
func TestParseSign(t *testing.T) {
	for _, value := range []string{"-1", "-0", "-0.0", "-00", "-0.5", "-1000"} {
		d, _ := dec.Parse(value)
		for _, behind := range []string{"", "|", "|x", "|@", "|@1", "|@0.5", "|@0.5|"} {
			wantFault(t, "a:"+value+"|g"+behind, api.ErrExpress, 2)
			wantFault(t, "name:"+value+"|g"+behind, api.ErrExpress, 5)
		}
		for _, kind := range []int{api.Counter, api.Timer, api.Hist} {
			wantParse(t, "a:"+value+"|"+wordOf(kind), one("a", kind, d, 1000000))
			wantParse(t, "a:"+value+"|"+wordOf(kind)+"|@0.5", one("a", kind, d, 500000))
		}
	}
}

// P10.2: what stands behind the second bar.
func TestParseBehindTheWord(t *testing.T) {
	for _, kind := range kinds() {
		line := "a:1|" + wordOf(kind)
		at := len(line) + 1
		wantFault(t, line+"|", api.ErrForm, at)
		for i := range 256 {
			b := string([]byte{byte(i)})
			if b != "@" {
				for _, behind := range []string{b, b + "@1", b + "|", b + "|@1", b + b} {
					wantFault(t, line+"|"+behind, api.ErrForm, at)
				}
			}
		}
		wantFault(t, line+"|#t:1", api.ErrForm, at)
		wantFault(t, line+"|T5", api.ErrForm, at)
		wantFault(t, line+"|1", api.ErrForm, at)
		wantFault(t, line+"|0.5", api.ErrForm, at)
	}
}

// P10.2: rates that num.Rate refuses, and those that a gauge may not have.
func TestParseRate(t *testing.T) {
	for _, kind := range kinds() {
		line := "a:1|" + wordOf(kind) + "|@"
		for _, s := range []string{"", "0", "0.", "0.0", "0.000000", "2", "1.0", "1.", "01", "-1", "+1", "-0.5", ".5", "0.1234567", "0.5000000", "0.5 ", " 0.5", "x", "@", "@1",
			"0.5x", "0,5", "1 ", "1\n", "\xff"} {
			wantFault(t, line+s, api.ErrRate, len(line))
			for _, behind := range []string{"|", "|x", "||", "|@1"} {
				wantFault(t, line+s+behind, api.ErrRate, len(line))
			}
		}
		wantParse(t, line+"1", one("a", kind, api.Dec{Coef: 1}, 1000000))
		for _, s := range []string{"0.5", "0.50", "0.500000"} {
			if kind == api.Gauge {
				wantFault(t, line+s, api.ErrRate, len(line))
				wantFault(t, line+s+"|", api.ErrRate, len(line))
			} else {
				wantParse(t, line+s, one("a", kind, api.Dec{Coef: 1}, 500000))
			}
		}
		if kind == api.Gauge {
			wantFault(t, line+"0.999999", api.ErrRate, len(line))
			wantFault(t, line+"0.000001", api.ErrRate, len(line))
		}
	}
}

// P10.2: a third bar.
func TestParseBehindTheRate(t *testing.T) {
	for _, kind := range kinds() {
		for _, s := range []string{"1", "0.5", "0.50"} {
			line := "a:1|" + wordOf(kind) + "|@" + s
			code, at := api.ErrForm, len(line)
			if kind == api.Gauge && s != "1" {
				code, at = api.ErrRate, len(line)-len(s)
			}
			for _, behind := range []string{"", "x", "|", "@1", "@", "#t", "T5", "c", "||"} {
				wantFault(t, line+"|"+behind, code, at)
			}
		}
	}
}

// piece is a part of a line, how that is wrong (OK: it is not), and at which of its bytes.
type piece struct {
	text string
	code api.Errno
	at   int
}

// P10.2: each fault beside each one that is told later.
func TestOrderOfFaults(t *testing.T) {
	long := strings.Repeat("n", 200)
	names := []piece{{"a", api.OK, 0}, {long, api.OK, 0}, {"", api.ErrName, 0}, {long + "n", api.ErrName, 0}, {"a b", api.ErrName, 0}, {"a|", api.ErrName, 0}, {"a/b", api.ErrName, 0}}
	values := []piece{{":1", api.OK, 0}, {":-1", api.OK, 0}, {":0", api.OK, 0}, {":-0", api.OK, 0}, {":", api.ErrValue, 1}, {":x", api.ErrValue, 1}, {":1.", api.ErrValue, 1}, {"::1", api.ErrValue, 1}, {":-", api.ErrValue, 1}}
	words := []piece{{"|c", api.OK, 0}, {"|g", api.OK, 0}, {"|ms", api.OK, 0}, {"|h", api.OK, 0}, {"|", api.ErrKind, 1}, {"|d", api.ErrKind, 1}, {"|cc", api.ErrKind, 1}, {"|G", api.ErrKind, 1}}
	rates := []piece{{"", api.OK, 0}, {"|@1", api.OK, 0}, {"|@0.5", api.OK, 0}, {"|", api.ErrForm, 1}, {"|x", api.ErrForm, 1}, {"||", api.ErrForm, 1},
		{"|@", api.ErrRate, 2}, {"|@2", api.ErrRate, 2}, {"|@0.0|", api.ErrRate, 2}, {"|@|", api.ErrRate, 2}, {"|@1|", api.ErrForm, 3}, {"|@0.5|x", api.ErrForm, 5}}
	for _, name := range names {
		for _, value := range values {
			for _, word := range words {
				for _, rate := range rates {
					kind, told := word, rate
					if word.text == "|g" && value.code == api.OK && value.text[1] == '-' {
						kind = piece{word.text, api.ErrExpress, 1 - len(value.text)}
					}
					if word.text == "|g" && strings.HasPrefix(rate.text, "|@0.5") {
						told = piece{rate.text, api.ErrRate, 2}
					}
					wantFirst(t, name, value, kind, told)
				}
			}
		}
	}
}

// wantFirst asks for the fault of the first piece that has one; a line whose pieces have none is parsed.
func wantFirst(t *testing.T, pieces ...piece) {
	t.Helper()
	s, from := "", 0
	for _, p := range pieces {
		s += p.text
	}
	for _, p := range pieces {
		if p.code != api.OK {
			wantFault(t, s, p.code, from+p.at)
			return
		}
		from += len(p.text)
	}
	if _, f := statsd.Parse(s); f != (api.Fault{}) {
		t.Errorf("Parse(%q) is %v", s, f)
	}
}

// P10.2: a line that is cut short at each of its bytes.
func TestLinesThatEndEarly(t *testing.T) {
	line := "ab:-1.5|ms|@0.25"
	for n, want := range []api.Fault{
		{Code: api.ErrName}, {Code: api.ErrForm, At: 1}, {Code: api.ErrForm, At: 2}, {Code: api.ErrValue, At: 3}, {Code: api.ErrValue, At: 3}, {Code: api.ErrForm, At: 5},
		{Code: api.ErrValue, At: 3}, {Code: api.ErrForm, At: 7}, {Code: api.ErrKind, At: 8}, {Code: api.ErrKind, At: 8}, {}, {Code: api.ErrForm, At: 11},
		{Code: api.ErrRate, At: 12}, {Code: api.ErrRate, At: 12}, {Code: api.ErrRate, At: 12}, {}, {},
	} {
		if _, f := statsd.Parse(line[:n]); f != want {
			t.Errorf("Parse(%q) is %v, not %v", line[:n], f, want)
		}
	}
	wantFault(t, line+"\n", api.ErrRate, 12)
}

// P10.2: all short texts of some bytes, and all short endings of some lines, by the promise's words.
func TestParseByItsWords(t *testing.T) {
	both := func(s string) { wantByItsWords(t, s) }
	texts("a:|1-@c", 6, both)
	texts("a:1|g@ ", 5, both)
	for _, line := range []string{"a:1", "a:-1|", "a:1|c", "a:1|g", "a:-0|g", "a:1|ms|", "a:1|h|@"} {
		texts("01.-|@gcs:", 4, func(s string) { both(line + s) })
	}
	for _, line := range []string{"a:1|c|@", "a:1|g|@"} {
		texts("01.|", 8, func(s string) { both(line + s) })
	}
}

// P10.3: lines of one number and one rate are parsed as one metric, and have one line that is written.
func TestOneLine(t *testing.T) {
	for _, kind := range kinds() {
		for _, n := range numbers() {
			for _, r := range append(rates(), rate{1000000, "1"}) {
				if kind == api.Gauge && r.millionths != 1000000 {
					continue
				}
				wantOneLine(t, kind, n, r)
				if kind != api.Gauge {
					wantOneLine(t, kind, n.below(), r)
				}
			}
		}
	}
}

// wantOneLine asks of all ways in which a metric can be told.
func wantOneLine(t *testing.T, kind int, n number, r rate) {
	t.Helper()
	if n.value.Coef == 0 {
		n.value = api.Dec{}
	}
	want := one("a.b", kind, n.value, r.millionths)
	head, tail := "a.b:", "|"+wordOf(kind)
	line := head + strings.TrimPrefix(n.text, "-") + tail
	if n.value.Neg {
		line = head + n.text + tail
	}
	if r.millionths != 1000000 {
		line += "|@" + r.text
	}
	for _, value := range waysOfNumber(n.text) {
		for _, told := range waysOfRate(r) {
			s := head + value + tail + told
			wantParse(t, s, want)
			m, _ := statsd.Parse(s)
			if got, code := statsd.Line(m); got != line || code != api.OK {
				t.Errorf("Parse(%q) is %v, whose line is %q, %v, not %q", s, m, got, code, line)
			}
		}
	}
}

// waysOfNumber are texts of one number: with zeros ahead of it, and behind its point.
func waysOfNumber(text string) []string {
	sign, digits := "", text
	if text[0] == '-' {
		sign, digits = "-", text[1:]
	}
	ways := []string{}
	for _, ahead := range []string{"", "0", "00", "0000000000000000000000"} {
		ways = append(ways, sign+ahead+digits)
		for _, behind := range []string{"0", "00", "0000000000000000000000"} {
			if strings.Contains(digits, ".") {
				ways = append(ways, sign+ahead+digits+behind)
			} else {
				ways = append(ways, sign+ahead+digits+"."+behind)
			}
		}
	}
	return ways
}

// waysOfRate are endings of lines that tell one rate.
func waysOfRate(r rate) []string {
	if r.millionths == 1000000 {
		return []string{"", "|@1"}
	}
	ways := []string{}
	for s := r.text; len(s) <= 8; s += "0" {
		ways = append(ways, "|@"+s)
	}
	return ways
}

// P10.3: metrics at random, there and back.
func TestThereAndBack(t *testing.T) {
	r := rand.New(rand.NewSource(10))
	for range 20000 {
		name := make([]byte, 1+r.Intn(20))
		for i := range name {
			name[i] = nameBytes[r.Intn(len(nameBytes))]
		}
		kind := 1 + r.Intn(4)
		d, _ := dec.Normal(api.Dec{Neg: kind != api.Gauge && r.Intn(2) == 0, Coef: r.Uint64() >> r.Intn(64), Exp: r.Intn(37) - 18})
		m := one(string(name), kind, d, 1000000)
		if kind != api.Gauge && r.Intn(2) == 0 {
			m.Rate = 1 + r.Intn(1000000)
		}
		if expr.Metric(m, api.StatsD) != api.OK {
			continue // its exponent went beyond
		}
		line, code := statsd.Line(m)
		if code != api.OK || strings.Contains(line, "\n") {
			t.Fatalf("Line(%v) is %q, %v", m, line, code)
		}
		wantLine(t, m, line)
	}
}

// P10.2, P10.3: lines of which some bytes were changed, by the promise's words.
func TestChangedLines(t *testing.T) {
	r := rand.New(rand.NewSource(11))
	const alphabet = "aZ09_.-:|@cgmshd/# \n\x00\xff"
	for _, line := range []string{"a.b:1.50|ms|@0.1", "a:1|g|@1", "a:-12|c", "h:0|h|@0.000001"} {
		for range 20000 {
			b := []byte(line)
			for range 1 + r.Intn(3) {
				at := r.Intn(len(b))
				switch other := alphabet[r.Intn(len(alphabet))]; r.Intn(3) {
				case 0:
					b[at] = other
				case 1:
					b = slices.Insert(b, at, other)
				default:
					b = slices.Delete(b, at, min(at+1, len(b)))
					b = append(b, other)
				}
			}
			wantByItsWords(t, string(b))
		}
	}
}

// P10.1, P10.3: lines of different metrics differ.
func TestLinesDiffer(t *testing.T) {
	told := map[string]string{}
	for _, name := range []string{"a", "a.b", "b"} {
		for _, kind := range kinds() {
			for _, n := range numbers() {
				for _, r := range append(rates(), rate{1000000, "1"}) {
					s, code := statsd.Line(one(name, kind, n.value, r.millionths))
					if code != api.OK {
						continue // a gauge's rate
					}
					key := name + " " + strconv.Itoa(kind) + " " + n.text + " " + r.text
					if other, ok := told[s]; ok {
						t.Errorf("%q is the line of %s and of %s", s, other, key)
					}
					told[s] = key
				}
			}
		}
	}
}

// The chapter's examples.
func TestExamples(t *testing.T) {
	wantParse(t, `a.b:1.50|ms|@0.1`, one("a.b", api.Timer, api.Dec{Coef: 15, Exp: -1}, 100000))
	wantLine(t, one("a.b", api.Timer, api.Dec{Coef: 15, Exp: -1}, 100000), `a.b:1.5|ms|@0.1`)
	wantFault(t, `a:-1|g`, api.ErrExpress, 2)
	wantFault(t, `a:1|c|x`, api.ErrForm, 6)
	wantFault(t, `a:1`, api.ErrForm, 3)
}

// P10.2, P10.3 at any text.
func FuzzParse(f *testing.F) {
	for _, s := range []string{"", "a", "a:", "a:1", "a:1|", "a:1|c", "a:-1|g", "a:1|c|", "a:1|c|@", "a.b:1.50|ms|@0.1", "a:1|g|@0.5", "a:1|h|@1|", "a:1|c|#t"} {
		f.Add(s)
	}
	f.Fuzz(wantByItsWords)
}
