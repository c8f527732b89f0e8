package text_test

import (
	"bytes"
	"math"
	"math/rand"
	"slices"
	"strconv"
	"strings"
	"testing"

	"forebay/api"
	"forebay/batch"
	"forebay/dog"
	"forebay/expr"
	"forebay/graphite"
	"forebay/metric"
	"forebay/statsd"
	"forebay/text"
)

// ofLines are the formats of lines.
func ofLines() []int { return []int{api.StatsD, api.Dog, api.Graphite} }

// ofNoLines are numbers that are no format of lines.
func ofNoLines() []int {
	return []int{api.Binary, 0, -1, -2, -3, -4, 5, 6, 255, 256, 257, 258, 259, 1 << 32, 1<<32 + 1, 1<<32 + 2, 1<<32 + 3, math.MinInt, math.MinInt + 1, math.MaxInt, math.MaxInt - 1}
}

// one is a metric that a format of lines can say, in its one form; StatsD and Dog say it with a rate.
func one(name string, format int) api.Metric {
	m := api.Metric{Name: name, Kind: api.Timer, Values: []api.Dec{{Coef: 15, Exp: -1}}, Rate: 500000}
	switch format {
	case api.Dog:
		m.Values = append(m.Values, api.Dec{Neg: true, Coef: 2})
		m.Tags = []api.Tag{{Key: "k", Value: "v"}, {Key: "l"}}
		m.Time = 7
	case api.Graphite:
		m.Kind, m.Rate, m.Time = api.Gauge, api.OneRate, 7
	}
	return m
}

// lineOf is the line of the metric that one makes, as it is written out.
func lineOf(name string, format int) string {
	switch format {
	case api.StatsD:
		return name + ":1.5|ms|@0.5"
	case api.Dog:
		return name + ":1.5:-2|ms|@0.5|#k:v,l|T7"
	}
	return name + " 1.5 7"
}

// rowOf are so many metrics that a format can say, each with a name of its own.
func rowOf(n, format int) []api.Metric {
	l := make([]api.Metric, 0, n)
	for i := range n {
		l = append(l, one("n"+strconv.Itoa(i), format))
	}
	return l
}

// linesOf are their lines.
func linesOf(n, format int) []string {
	l := make([]string, 0, n)
	for i := range n {
		l = append(l, lineOf("n"+strconv.Itoa(i), format))
	}
	return l
}

// fed are lines with a line feed behind each.
func fed(lines []string) string {
	s := ""
	for _, line := range lines {
		s += line + "\n"
	}
	return s
}

// cannot are metrics that are right, but a format cannot say them.
func cannot(format int) []api.Metric {
	turn := func(turns ...func(m *api.Metric)) api.Metric {
		m := one("cannot", format)
		for _, t := range turns {
			t(&m)
		}
		return m
	}
	switch format {
	case api.StatsD:
		return []api.Metric{
			turn(func(m *api.Metric) { m.Kind = api.Dist }),
			turn(func(m *api.Metric) { m.Kind, m.Rate, m.Values[0].Neg = api.Gauge, api.OneRate, true }),
			turn(func(m *api.Metric) { m.Values = append(m.Values, api.Dec{}) }),
			turn(func(m *api.Metric) { m.Tags = []api.Tag{{Key: "k"}} }),
			turn(func(m *api.Metric) { m.Time = 1 }),
		}
	case api.Graphite:
		return []api.Metric{
			turn(func(m *api.Metric) { m.Kind = api.Counter }),
			turn(func(m *api.Metric) { m.Kind = api.Dist }),
			turn(func(m *api.Metric) { m.Values = append(m.Values, api.Dec{}) }),
			turn(func(m *api.Metric) { m.Tags = []api.Tag{{Key: "k"}} }),
			turn(func(m *api.Metric) { m.Time = 0 }),
		}
	}
	return nil
}

// turn is a change of a metric after which it has no Normal, and the error by which that is told.
type turn struct {
	wrong func(m *api.Metric)
	code  api.Errno
}

// turns stand in the order in which metric.Normal tells them.
func turns() []turn {
	return []turn{
		{func(m *api.Metric) { m.Name = "" }, api.ErrName},
		{func(m *api.Metric) { m.Name = "a b" }, api.ErrName},
		{func(m *api.Metric) { m.Name = "a\n" }, api.ErrName},
		{func(m *api.Metric) { m.Name = strings.Repeat("a", 201) }, api.ErrName},
		{func(m *api.Metric) { m.Kind = 0 }, api.ErrKind},
		{func(m *api.Metric) { m.Kind = 6 }, api.ErrKind},
		{func(m *api.Metric) { m.Kind = math.MinInt }, api.ErrKind},
		{func(m *api.Metric) { m.Values = nil }, api.ErrValue},
		{func(m *api.Metric) { m.Values = make([]api.Dec, 65) }, api.ErrValue},
		{func(m *api.Metric) { m.Values = []api.Dec{{Coef: 1, Exp: 38}} }, api.ErrValue},
		{func(m *api.Metric) { m.Rate = 0 }, api.ErrRate},
		{func(m *api.Metric) { m.Rate = 1000001 }, api.ErrRate},
		{func(m *api.Metric) { m.Kind, m.Rate = api.Gauge, 999999 }, api.ErrRate},
		{func(m *api.Metric) { m.Tags = []api.Tag{{Key: "a:b"}} }, api.ErrTag},
		{func(m *api.Metric) { m.Tags = []api.Tag{{Key: "a", Value: "b,c"}} }, api.ErrTag},
		{func(m *api.Metric) { m.Tags = slices.Repeat([]api.Tag{{Key: "a"}}, 33) }, api.ErrTag},
		{func(m *api.Metric) { m.Time = -1 }, api.ErrTime},
		{func(m *api.Metric) { m.Time = 1<<40 + 1 }, api.ErrTime},
	}
}

// otherwise is a metric that is not in its one form, and the line that it has all the same.
type otherwise struct {
	m      api.Metric
	format int
	line   string
}

func otherwises() []otherwise {
	tags := []api.Tag{{Key: "z"}, {Key: "b", Value: "2"}, {Key: "a"}, {Key: "b", Value: "1"}, {Key: "z"}, {Key: "b"}}
	return []otherwise{
		{api.Metric{Name: "a", Kind: api.Counter, Values: []api.Dec{{Coef: 1000}}, Rate: 1000000}, api.StatsD, "a:1000|c"},
		{api.Metric{Name: "a", Kind: api.Counter, Values: []api.Dec{{Neg: true, Exp: 3}}, Rate: 1000000}, api.StatsD, "a:0|c"},
		{api.Metric{Name: "a", Kind: api.Gauge, Values: []api.Dec{{Neg: true}}, Rate: 1000000}, api.StatsD, "a:0|g"},
		{api.Metric{Name: "a", Kind: api.Gauge, Values: []api.Dec{{Coef: 10, Exp: -19}}, Rate: 1000000}, api.StatsD, "a:0.000000000000000001|g"},
		{api.Metric{Name: "a", Kind: api.Hist, Values: []api.Dec{{Neg: true, Coef: 250, Exp: -2}}, Rate: 1}, api.StatsD, "a:-2.5|h|@0.000001"},
		{api.Metric{Name: "a", Kind: api.Dist, Values: []api.Dec{{Coef: 100, Exp: -2}, {Neg: true}, {Coef: 70}, {Coef: 7, Exp: 1}}, Rate: 1000000}, api.Dog, "a:1:0:70:70|d"},
		{api.Metric{Name: "a", Kind: api.Gauge, Values: []api.Dec{{Neg: true, Coef: 5}}, Rate: 1000000, Tags: tags, Time: 1}, api.Dog, "a:-5|g|#a,b,b:1,b:2,z|T1"},
		{api.Metric{Name: "a", Kind: api.Gauge, Values: []api.Dec{{Neg: true, Coef: 10, Exp: -1}}, Rate: 1000000, Time: 9}, api.Graphite, "a -1 9"},
		{api.Metric{Name: "a", Kind: api.Gauge, Values: []api.Dec{{Neg: true, Exp: -5}}, Rate: 1000000, Time: 1 << 40}, api.Graphite, "a 0 1099511627776"},
	}
}

// keptOne is a metric of its own, made without the packages that are tested.
func keptOne(m api.Metric) api.Metric {
	m.Values = append([]api.Dec(nil), m.Values...)
	m.Tags = append([]api.Tag(nil), m.Tags...)
	return m
}

// kept is a batch of its own, made without the packages that are tested.
func kept(l []api.Metric) []api.Metric {
	own := []api.Metric{}
	for _, m := range l {
		own = append(own, keptOne(m))
	}
	return own
}

func sameOne(a, b api.Metric) bool {
	return a.Name == b.Name && a.Kind == b.Kind && a.Rate == b.Rate && a.Time == b.Time &&
		slices.Equal(a.Values, b.Values) && slices.Equal(a.Tags, b.Tags)
}

// same holds two batches against each other, as they stand, without the packages that are tested.
func same(a, b []api.Metric) bool { return slices.EqualFunc(a, b, sameOne) }

// few is a batch as a fault's report tells it: of many metrics only how many.
func few(l []api.Metric) any {
	if len(l) > 5 {
		return strconv.Itoa(len(l)) + " metrics"
	}
	return l
}

// short is a text as a fault's report tells it.
func short[T string | []byte](s T) string {
	if len(s) > 100 {
		return string(s[:50]) + ".. of " + strconv.Itoa(len(s)) + " bytes"
	}
	return string(s)
}

// scribble writes into all memory that a batch has, also behind the lengths of its lists.
func scribble(l []api.Metric) {
	l = l[:cap(l)]
	for i := range l {
		values, tags := l[i].Values[:cap(l[i].Values)], l[i].Tags[:cap(l[i].Tags)]
		for j := range values {
			values[j] = api.Dec{Neg: true, Coef: 4711, Exp: -7}
		}
		for j := range tags {
			tags[j] = api.Tag{Key: "over", Value: "written"}
		}
		l[i] = api.Metric{Name: "over written", Kind: -1, Rate: -1, Time: -1}
	}
}

// whole is a batch up to all that stands behind its length, and behind those of its metrics' lists.
func whole(l []api.Metric) []api.Metric {
	all := slices.Clone(l[:cap(l)])
	for i := range all {
		all[i].Values = all[i].Values[:cap(all[i].Values)]
		all[i].Tags = all[i].Tags[:cap(all[i].Tags)]
	}
	return all
}

// roomy is a batch with more memory behind its length, and behind those of its lists; none of it is in its one form.
func roomy(format int) []api.Metric {
	l := make([]api.Metric, 0, 20)
	for _, m := range []api.Metric{one("a", format), one("b", format), one("a", format)} {
		m.Values = append(make([]api.Dec, 0, 20), m.Values...)
		m.Values[0] = api.Dec{Coef: 150, Exp: -2}
		m.Tags = append(make([]api.Tag, 0, 20), m.Tags...)
		slices.Reverse(m.Tags)
		for i := range m.Values[len(m.Values):cap(m.Values)] {
			m.Values[len(m.Values):cap(m.Values)][i] = api.Dec{Coef: 10, Exp: i}
		}
		for i := range m.Tags[len(m.Tags):cap(m.Tags)] {
			m.Tags[len(m.Tags):cap(m.Tags)][i] = api.Tag{Key: "behind" + strconv.Itoa(i)}
		}
		l = append(l, m)
	}
	for i := range l[len(l):cap(l)] {
		l[len(l):cap(l)][i] = api.Metric{Name: "behind" + strconv.Itoa(i)}
	}
	return l
}

// lineByItsWords works out what P13.1 says of Line, with what it calls for of the layers below.
func lineByItsWords(m api.Metric, format int) (string, api.Errno) {
	if format != api.StatsD && format != api.Dog && format != api.Graphite {
		return "", api.ErrFormat
	}
	n, code := metric.Normal(m)
	if code != api.OK {
		return "", code
	}
	if code := expr.Metric(n, format); code != api.OK {
		return "", code
	}
	switch format {
	case api.StatsD:
		return statsd.Line(n)
	case api.Dog:
		return dog.Line(n)
	}
	return graphite.Line(n)
}

// parseByItsWords works out what P13.1 says of Parse.
func parseByItsWords(s string, format int) (api.Metric, api.Fault) {
	if format < api.StatsD || format > api.Graphite {
		return api.Metric{}, api.Fault{Code: api.ErrFormat}
	}
	if len(s) > 8192 {
		return api.Metric{}, api.Fault{Code: api.ErrLong}
	}
	if format == api.StatsD {
		return statsd.Parse(s)
	}
	if format == api.Dog {
		return dog.Parse(s)
	}
	return graphite.Parse(s)
}

// linesByItsWords works out what P13.2 says.
func linesByItsWords(l []api.Metric, format int) ([]string, int, api.Errno) {
	if format < api.StatsD || format > api.Graphite {
		return nil, 0, api.ErrFormat
	}
	n, at, code := batch.Normal(l)
	if code != api.OK {
		return nil, at, code
	}
	if at, code := expr.Batch(n, format); code != api.OK {
		return nil, at, code
	}
	lines := []string{}
	for _, m := range n {
		line, _ := lineByItsWords(m, format)
		lines = append(lines, line)
	}
	return lines, 0, api.OK
}

// decodeByItsWords works out what P13.3 says: byte by byte, and first which lines there are.
func decodeByItsWords(b []byte, format int) ([]api.Metric, api.Fault) {
	if format < api.StatsD || format > api.Graphite {
		return nil, api.Fault{Code: api.ErrFormat}
	}
	l, from := []api.Metric{}, 0
	for n := 1; from < len(b); n++ {
		to := from
		for to < len(b) && b[to] != 10 {
			to++
		}
		if n == 1001 {
			return nil, api.Fault{Code: api.ErrLong, At: from}
		}
		if to == len(b) {
			return nil, api.Fault{Code: api.ErrTail, At: from}
		}
		m, f := parseByItsWords(string(b[from:to]), format)
		if f != (api.Fault{}) {
			return nil, api.Fault{Code: f.Code, At: from + f.At}
		}
		l = append(l, m)
		from = to + 1
	}
	return l, api.Fault{}
}

func wantNoLine(t *testing.T, m api.Metric, format int, code api.Errno) {
	t.Helper()
	was := keptOne(m)
	if s, got := text.Line(m, format); s != "" || got != code {
		t.Errorf("Line(%v, %d) is %q, %v, not %v", was, format, s, got, code)
	}
	if !sameOne(m, was) {
		t.Errorf("%v became %v", was, m)
	}
}

// wantLine asks for P13.4 as well: the line is parsed as the metric's Normal.
func wantLine(t *testing.T, m api.Metric, format int, line string) {
	t.Helper()
	was := keptOne(m)
	if s, code := text.Line(m, format); s != line || code != api.OK {
		t.Errorf("Line(%v, %d) is %q, %v, not %q", was, format, s, code, line)
	}
	if !sameOne(m, was) {
		t.Errorf("%v became %v", was, m)
	}
	form, _ := metric.Normal(was)
	wantParse(t, line, format, form)
}

// wantParse asks for P13.4 as well: what is parsed is in its one form, and the format can say it. It writes into what
// is parsed, too: the next answer has memory of its own.
func wantParse(t *testing.T, s string, format int, want api.Metric) {
	t.Helper()
	for range 2 {
		m, f := text.Parse(s, format)
		if f != (api.Fault{}) || !sameOne(m, want) {
			t.Errorf("Parse(%q, %d) is %v, %v, not %v", short(s), format, m, f, want)
			return
		}
		if !metric.Is(m) || expr.Metric(m, format) != api.OK {
			t.Errorf("Parse(%q, %d) is %v: the format cannot say it, or not in this form", short(s), format, m)
		}
		scribble([]api.Metric{m})
	}
}

func wantFault(t *testing.T, s string, format int, code api.Errno, at int) {
	t.Helper()
	if m, f := text.Parse(s, format); f != (api.Fault{Code: code, At: at}) || !sameOne(m, api.Metric{}) {
		t.Errorf("Parse(%q, %d) is %v, %v, not %v at %d", short(s), format, m, f, code, at)
	}
}

// wantWrong asks Lines and Encode of a batch that is wrong, or that the format cannot say.
func wantWrong(t *testing.T, l []api.Metric, format int, at int, code api.Errno) {
	t.Helper()
	was := kept(l)
	if lines, n, got := text.Lines(l, format); len(lines) != 0 || n != at || got != code {
		t.Errorf("Lines(%v, %d) is %q, %d, %v, not %v at %d", few(was), format, lines, n, got, code, at)
	}
	if b, n, got := text.Encode(l, format); len(b) != 0 || n != at || got != code {
		t.Errorf("Encode(%v, %d) is %q, %d, %v, not %v at %d", few(was), format, short(b), n, got, code, at)
	}
	if !same(l, was) {
		t.Errorf("%v became %v", few(was), few(l))
	}
}

// wantLines asks Lines and Encode of a batch that the format can say, each twice: what is written into an answer does
// not show in the next one. It asks for P13.4 as well: the bytes are decoded as the batch's Normal.
func wantLines(t *testing.T, l []api.Metric, format int, want []string) {
	t.Helper()
	was := kept(l)
	for range 2 {
		lines, at, code := text.Lines(l, format)
		if !slices.Equal(lines, want) || at != 0 || code != api.OK {
			t.Errorf("Lines(%v, %d) is %q, %d, %v, not %q", few(was), format, lines, at, code, want)
			return
		}
		b, at, code := text.Encode(l, format)
		if string(b) != fed(want) || at != 0 || code != api.OK {
			t.Errorf("Encode(%v, %d) is %q, %d, %v, not %q", few(was), format, short(b), at, code, short(fed(want)))
			return
		}
		if !same(l, was) {
			t.Errorf("%v became %v", few(was), few(l))
		}
		lines = lines[:cap(lines)]
		for i := range lines {
			lines[i] = "over written"
		}
		b = b[:cap(b)]
		for i := range b {
			b[i] = '!'
		}
	}
	form, _, _ := batch.Normal(was)
	wantDecode(t, fed(want), format, form)
}

// wantDecode asks for P13.4 as well: what is decoded is in its one form, the format can say it, and its bytes are
// decoded as the same. It writes into what is decoded, and into the bytes, too: nothing of that shows.
func wantDecode(t *testing.T, s string, format int, want []api.Metric) {
	t.Helper()
	b := []byte(s)
	for range 2 {
		l, f := text.Decode(b, format)
		if f != (api.Fault{}) || !same(l, want) {
			t.Errorf("Decode(%q, %d) is %v, %v, not %v", short(s), format, few(l), f, few(want))
			return
		}
		if string(b) != s {
			t.Errorf("%q became %q", short(s), short(b))
		}
		again, at, code := text.Encode(l, format)
		if at != 0 || code != api.OK {
			t.Errorf("Decode(%q, %d) is %v, which the format cannot say: %d, %v", short(s), format, few(l), at, code)
		}
		for _, m := range l {
			if !metric.Is(m) {
				t.Errorf("Decode(%q, %d) has %v, not in its one form", short(s), format, m)
			}
		}
		other, f := text.Decode(again, format)
		if f != (api.Fault{}) || !same(other, want) {
			t.Errorf("Decode(%q, %d), whose bytes are %q, are %v, %v", short(s), format, short(again), few(other), f)
		}
		own := append(make([]byte, 0, len(s)+100), s...)
		l, _ = text.Decode(own, format)
		for i := range own[:cap(own)] {
			own[:cap(own)][i] = '!'
		}
		if !same(l, want) {
			t.Errorf("what is written into %q shows in what was decoded: %v", short(s), few(l))
		}
		scribble(l)
		if !same(other, want) {
			t.Errorf("what is written into what %q is decoded as shows: %v", short(s), few(other))
		}
	}
}

func wantNoDecode(t *testing.T, s string, format int, code api.Errno, at int) {
	t.Helper()
	b := []byte(s)
	if l, f := text.Decode(b, format); f != (api.Fault{Code: code, At: at}) || len(l) != 0 {
		t.Errorf("Decode(%q, %d) is %v, %v, not %v at %d", short(s), format, few(l), f, code, at)
	}
	if string(b) != s {
		t.Errorf("%q became %q", short(s), short(b))
	}
}

// wantByItsWords asks of a text in a format for what the promises' words say of Parse and of Decode.
func wantByItsWords(t *testing.T, s string, format int) {
	t.Helper()
	if m, f := parseByItsWords(s, format); f == (api.Fault{}) {
		wantParse(t, s, format, m)
	} else {
		wantFault(t, s, format, f.Code, f.At)
	}
	if l, f := decodeByItsWords([]byte(s), format); f == (api.Fault{}) {
		wantDecode(t, s, format, l)
	} else {
		wantNoDecode(t, s, format, f.Code, f.At)
	}
}

// texts hands on each text of at most so many bytes of an alphabet.
func texts(alphabet string, most int, each func(s string)) {
	each("")
	if most == 0 {
		return
	}
	for i := range len(alphabet) {
		texts(alphabet, most-1, func(s string) { each(alphabet[i:i+1] + s) })
	}
}

// P13.1, P13.2, P13.3: a format that is none of lines goes ahead of whatever else is wrong, in all five.
func TestNoFormatOfLines(t *testing.T) {
	right := one("a", api.StatsD)
	tooMany := rowOf(1001, api.StatsD)
	for _, format := range ofNoLines() {
		wantNoLine(t, right, format, api.ErrFormat)
		wantNoLine(t, api.Metric{}, format, api.ErrFormat)
		for _, wrong := range turns() {
			m := one("a", api.StatsD)
			wrong.wrong(&m)
			wantNoLine(t, m, format, api.ErrFormat)
			wantWrong(t, []api.Metric{right, m}, format, 0, api.ErrFormat)
		}
		for _, said := range append(cannot(api.StatsD), cannot(api.Graphite)...) {
			wantNoLine(t, said, format, api.ErrFormat)
			wantWrong(t, []api.Metric{right, said}, format, 0, api.ErrFormat)
		}
		wantWrong(t, nil, format, 0, api.ErrFormat)
		wantWrong(t, []api.Metric{right}, format, 0, api.ErrFormat)
		wantWrong(t, tooMany, format, 0, api.ErrFormat)
		for _, s := range []string{"", "\n", "a:1|c", "a:1|c\n", "a 1 5", "a 1 5\n", "x", " ", "a:1|c\nx", strings.Repeat("x", 8193), strings.Repeat("a:1|c\n", 1001)} {
			wantFault(t, s, format, api.ErrFormat, 0)
			wantNoDecode(t, s, format, api.ErrFormat, 0)
		}
	}
}

// P13.1: ordinary metrics, in each format.
func TestLine(t *testing.T) {
	for _, format := range ofLines() {
		for _, name := range []string{"a", "a.b-c_d.9", strings.Repeat("n", 200)} {
			wantLine(t, one(name, format), format, lineOf(name, format))
		}
	}
	gauge := api.Metric{Name: "a", Kind: api.Gauge, Values: []api.Dec{{Coef: 2}}, Rate: 1000000}
	wantLine(t, gauge, api.StatsD, "a:2|g")
	wantLine(t, gauge, api.Dog, "a:2|g")
	wantNoLine(t, gauge, api.Graphite, api.ErrExpress)
	gauge.Time = 5
	wantNoLine(t, gauge, api.StatsD, api.ErrExpress)
	wantLine(t, gauge, api.Dog, "a:2|g|T5")
	wantLine(t, gauge, api.Graphite, "a 2 5")
	gauge.Values[0].Neg = true
	wantLine(t, gauge, api.Dog, "a:-2|g|T5")
	wantLine(t, gauge, api.Graphite, "a -2 5")
}

// P13.1: each of metric.Normal's errors, in each format.
func TestLineOfWhatHasNoNormal(t *testing.T) {
	for _, format := range ofLines() {
		wantNoLine(t, api.Metric{}, format, api.ErrName)
		for _, wrong := range turns() {
			m := one("a", format)
			wrong.wrong(&m)
			wantNoLine(t, m, format, wrong.code)
		}
	}
}

// P13.1: of two parts of a metric that are wrong the first one is told.
func TestLineOfTwoWrongParts(t *testing.T) {
	for _, format := range ofLines() {
		for i, first := range turns() {
			for _, second := range turns()[i+1:] {
				m := one("a", format)
				second.wrong(&m)
				first.wrong(&m)
				_, code := metric.Normal(m)
				if code == api.OK {
					t.Errorf("%v has a Normal", m)
				}
				wantNoLine(t, m, format, code)
			}
		}
	}
}

// P13.1: what the format cannot say; and metric.Normal's errors go ahead of it.
func TestLineOfWhatCannotBeSaid(t *testing.T) {
	for _, format := range ofLines() {
		for _, m := range cannot(format) {
			wantNoLine(t, m, format, api.ErrExpress)
			for _, wrong := range turns() {
				both := keptOne(m)
				wrong.wrong(&both)
				_, code := metric.Normal(both)
				if code != wrong.code {
					continue
				}
				wantNoLine(t, both, format, code)
			}
			// not in its one form either, of which expr.Metric has an error
			both := keptOne(m)
			both.Values = append(both.Values, api.Dec{Coef: 10})
			wantNoLine(t, both, format, api.ErrExpress)
		}
	}
}

// P13.1: a metric that is not in its one form has the line of its Normal.
func TestLineOfAnotherForm(t *testing.T) {
	for _, x := range otherwises() {
		if metric.Is(x.m) {
			t.Errorf("%v is in its one form", x.m)
		}
		wantLine(t, x.m, x.format, x.line)
		wantLines(t, []api.Metric{x.m, one("b", x.format), x.m}, x.format, []string{x.line, lineOf("b", x.format), x.line})
	}
}

// P13.1: what each format tells of a line, right or wrong.
func TestParse(t *testing.T) {
	for _, format := range ofLines() {
		for _, name := range []string{"a", "a.b-c_d.9", strings.Repeat("n", 200)} {
			wantParse(t, lineOf(name, format), format, one(name, format))
		}
		for _, s := range []string{"", " ", ":", "|", "\n", "a", "a:", "a ", "a:1", "a 1", "a:x|c", "a x 5", "a:1|x", "a 1 x", "a:1|c|x", "a 1 5 ", "a:-1|g", "a:1|g|@0.5", "a:1|c|@2",
			"a:1|c\n", "a 1 5\n", "a:1|c\r", "a 1 5\r", "a:1:2|d", "a:1|c|#k", "a:1|c|T7", "a:01.50|ms|@0.10", "a 01.50 7"} {
			m, f := parseByItsWords(s, format)
			if f == (api.Fault{}) {
				wantParse(t, s, format, m)
			} else {
				wantFault(t, s, format, f.Code, f.At)
			}
		}
		wantFault(t, "", format, api.ErrName, 0)
	}
	wantFault(t, "a:1|c", api.Graphite, api.ErrName, 0)
	wantFault(t, "a 1 5", api.StatsD, api.ErrName, 0)
	wantFault(t, "a 1 5", api.Dog, api.ErrName, 0)
	wantFault(t, "a:1:2|d", api.StatsD, api.ErrValue, 2)
	wantFault(t, "a:1|c|T7", api.StatsD, api.ErrForm, 6)
	wantFault(t, "a:-1|g", api.StatsD, api.ErrExpress, 2)
	wantFault(t, "a:1|c|T7|@1", api.Dog, api.ErrForm, 9)
	wantFault(t, "a 1 0", api.Graphite, api.ErrTime, 4)
	wantParse(t, "a:-1|g", api.Dog, api.Metric{Name: "a", Kind: api.Gauge, Values: []api.Dec{{Neg: true, Coef: 1}}, Rate: 1000000})
}

// longLine is a line of so many bytes that is right, with zeros ahead of its number, and the metric that it tells.
func longLine(bytes, format int) (string, api.Metric) {
	m := api.Metric{Name: "a", Kind: api.Counter, Values: []api.Dec{{Coef: 1}}, Rate: 1000000}
	ahead, behind := "a:", "1|c"
	if format == api.Graphite {
		m.Kind, m.Time = api.Gauge, 5
		ahead, behind = "a ", "1 5"
	}
	return ahead + strings.Repeat("0", bytes-len(ahead)-len(behind)) + behind, m
}

// P13.1, P13.3: texts and lines of 8192 bytes, and of one more, in each format.
func TestLengthOfLine(t *testing.T) {
	for _, format := range ofLines() {
		for _, n := range []int{8190, 8191, 8192} {
			line, m := longLine(n, format)
			wantParse(t, line, format, m)
			wantDecode(t, line+"\n", format, []api.Metric{m})
			wantDecode(t, lineOf("b", format)+"\n"+line+"\n"+line+"\n", format, []api.Metric{one("b", format), m, m})
			wantNoDecode(t, line, format, api.ErrTail, 0)
			for _, b := range []string{"x", ":", " ", "|"} {
				s := strings.Repeat(b, n)
				_, f := parseByItsWords(s, format)
				wantFault(t, s, format, f.Code, f.At)
				wantNoDecode(t, s+"\n", format, f.Code, f.At)
				wantNoDecode(t, line+"\n"+s+"\n", format, f.Code, n+1+f.At)
			}
		}
		for _, n := range []int{8193, 8194, 10000, 16385, 70000} {
			line, _ := longLine(n, format)
			ahead := lineOf("b", format) + "\n"
			for _, s := range []string{line, strings.Repeat("x", n), strings.Repeat(" ", n), strings.Repeat("\x00", n)} {
				wantFault(t, s, format, api.ErrLong, 0)
				wantNoDecode(t, s+"\n", format, api.ErrLong, 0)
				wantNoDecode(t, s+"\nx\n", format, api.ErrLong, 0)
				wantNoDecode(t, s+"\nx", format, api.ErrLong, 0)
				wantNoDecode(t, ahead+s+"\n", format, api.ErrLong, len(ahead))
				wantNoDecode(t, s, format, api.ErrTail, 0)
				wantNoDecode(t, ahead+s, format, api.ErrTail, len(ahead))
				wantNoDecode(t, "\n"+s+"\n", format, api.ErrName, 0)
			}
			wantFault(t, strings.Repeat("\n", n), format, api.ErrLong, 0)
		}
	}
}

// P13.2: no metric, one, several and as many as may be, in each format.
func TestLines(t *testing.T) {
	for _, format := range ofLines() {
		wantLines(t, nil, format, nil)
		wantLines(t, []api.Metric{}, format, nil)
		for _, n := range []int{1, 2, 3, 17, 999, 1000} {
			wantLines(t, rowOf(n, format), format, linesOf(n, format))
		}
		// one metric twice is two lines
		m := one("a", format)
		wantLines(t, []api.Metric{m, m}, format, []string{lineOf("a", format), lineOf("a", format)})
	}
}

// P13.2: more than 1000 metrics, right, wrong, and such as cannot be said.
func TestTooManyMetrics(t *testing.T) {
	for _, format := range ofLines() {
		for _, n := range []int{1001, 1002, 3000} {
			wantWrong(t, rowOf(n, format), format, 1000, api.ErrLong)
			wantWrong(t, make([]api.Metric, n), format, 1000, api.ErrLong)
			for _, m := range cannot(format) {
				wantWrong(t, slices.Repeat([]api.Metric{m}, n), format, 1000, api.ErrLong)
			}
		}
		wantWrong(t, make([]api.Metric, 1000), format, 0, api.ErrName)
		l := rowOf(1000, format)
		l[999].Name = ""
		wantWrong(t, l, format, 999, api.ErrName)
		for _, m := range cannot(format) {
			l[999] = m
			wantWrong(t, l, format, 999, api.ErrExpress)
		}
	}
}

// P13.2: each error of a metric, wherever it stands, and of two of them the first.
func TestWrongMetrics(t *testing.T) {
	for _, format := range ofLines() {
		for _, wrong := range turns() {
			for at := range 4 {
				l := rowOf(4, format)
				wrong.wrong(&l[at])
				wantWrong(t, l, format, at, wrong.code)
				for behind := at + 1; behind < 4; behind++ {
					both := kept(l)
					both[behind] = api.Metric{}
					wantWrong(t, both, format, at, wrong.code)
				}
			}
		}
	}
}

// P13.2: batch.Normal's place and error go ahead of expr.Batch's, wherever the metrics stand.
func TestWrongAheadOfWhatCannotBeSaid(t *testing.T) {
	for _, format := range ofLines() {
		for _, said := range cannot(format) {
			for at := range 4 {
				l := rowOf(4, format)
				l[at] = said
				wantWrong(t, l, format, at, api.ErrExpress)
				for other := range 4 {
					both := kept(l)
					both[other] = said
					wantWrong(t, both, format, min(at, other), api.ErrExpress)
					if other == at {
						continue
					}
					for _, wrong := range turns() {
						both := kept(l)
						wrong.wrong(&both[other])
						wantWrong(t, both, format, other, wrong.code)
					}
				}
			}
		}
	}
}

// P13.2: metrics, of which each is right, not so, or cannot be said, by the promise's words.
func TestLinesByItsWords(t *testing.T) {
	for _, format := range ofLines() {
		pool := []api.Metric{one("a", format), one("b", format), {}, {Name: "a", Kind: 9}, one("c", api.StatsD), one("d", api.Dog), one("e", api.Graphite)}
		for _, x := range otherwises() {
			pool = append(pool, x.m)
		}
		r := rand.New(rand.NewSource(int64(format)))
		for range 5000 {
			l := []api.Metric{}
			for range r.Intn(6) {
				l = append(l, keptOne(pool[r.Intn(len(pool))]))
			}
			lines, at, code := linesByItsWords(l, format)
			if code == api.OK {
				wantLines(t, l, format, lines)
			} else {
				wantWrong(t, l, format, at, code)
			}
			for _, m := range l {
				line, code := lineByItsWords(m, format)
				if code == api.OK {
					wantLine(t, m, format, line)
				} else {
					wantNoLine(t, m, format, code)
				}
			}
		}
	}
}

// P13.2: what was handed in is not turned, and what stands behind its lengths neither.
func TestWhatIsHandedInStays(t *testing.T) {
	for _, format := range ofLines() {
		l := roomy(format)
		was := kept(whole(l))
		line := lineOf("a", format)
		wantLines(t, l, format, []string{line, lineOf("b", format), line})
		wantLine(t, l[0], format, line)
		for _, m := range append(cannot(format), api.Metric{}) {
			text.Lines(append(slices.Clone(l), m), format)
			text.Encode(append(slices.Clone(l), m), format)
		}
		if !same(whole(l), was) {
			t.Errorf("%v became %v", was, whole(l))
		}
	}
}

// P13.3: no bytes, line feeds alone, bytes without a line feed.
func TestDecodeNothing(t *testing.T) {
	for _, format := range ofLines() {
		wantDecode(t, "", format, nil)
		if l, f := text.Decode(nil, format); len(l) != 0 || f != (api.Fault{}) {
			t.Errorf("Decode(nil, %d) is %v, %v", format, l, f)
		}
		for n := 1; n < 4; n++ {
			wantNoDecode(t, strings.Repeat("\n", n), format, api.ErrName, 0)
		}
		wantNoDecode(t, strings.Repeat("\n", 1001), format, api.ErrName, 0)
		for _, s := range []string{"x", " ", "\r", "\x00", "\xff", lineOf("a", format), "a:1|c", "a 1 5", strings.Repeat("x", 9000)} {
			wantNoDecode(t, s, format, api.ErrTail, 0)
		}
	}
}

// P13.3: lines, and what stands behind the last line feed.
func TestDecode(t *testing.T) {
	for _, format := range ofLines() {
		for _, n := range []int{1, 2, 3, 17, 999, 1000} {
			wantDecode(t, fed(linesOf(n, format)), format, rowOf(n, format))
		}
		s := fed(linesOf(3, format))
		for _, tail := range []string{"x", " ", "\r", "\x00", lineOf("a", format), "a", strings.Repeat("x", 9000)} {
			wantNoDecode(t, s+tail, format, api.ErrTail, len(s))
		}
		wantNoDecode(t, s+"\n", format, api.ErrName, len(s))
		wantNoDecode(t, "\n"+s, format, api.ErrName, 0)
		wantNoDecode(t, s+"\n"+s, format, api.ErrName, len(s))
		wantNoDecode(t, s+"\nx", format, api.ErrName, len(s))
		// no byte but the line feed ends a line
		for _, b := range []string{"\r", "\x00", "\v", "\f", "\x85", "\u2028", "\x0a\r", "\\n"} {
			want := decodeFault(lineOf("a", format)+b+lineOf("b", format)+"\n", format)
			wantNoDecode(t, lineOf("a", format)+b+lineOf("b", format)+"\n", format, want.Code, want.At)
		}
	}
}

// decodeFault is the fault that the promise's words tell of a text.
func decodeFault(s string, format int) api.Fault {
	_, f := decodeByItsWords([]byte(s), format)
	return f
}

// P13.3: a carriage return ahead of a line feed is one byte of the line.
func TestCarriageReturn(t *testing.T) {
	wantNoDecode(t, "a:1|c\r\n", api.StatsD, api.ErrKind, 4)
	wantNoDecode(t, "a:1|c|@0.5\r\n", api.StatsD, api.ErrRate, 7)
	wantNoDecode(t, "a:1|c\nb:1|c\r\n", api.StatsD, api.ErrKind, 10)
	wantNoDecode(t, "a:1|c\r\n", api.Dog, api.ErrKind, 4)
	wantNoDecode(t, "a:1|c|T7\r\n", api.Dog, api.ErrTime, 6)
	wantNoDecode(t, "a:1|c|#k\r\n", api.Dog, api.ErrTag, 6)
	wantNoDecode(t, "a 1 5\r\n", api.Graphite, api.ErrTime, 4)
	wantNoDecode(t, "a 1 5\nb 1 5\r\n", api.Graphite, api.ErrTime, 10)
	for _, format := range ofLines() {
		wantNoDecode(t, "\r\n", format, api.ErrName, 0)
		wantNoDecode(t, lineOf("a", format)+"\n\r\n", format, api.ErrName, len(lineOf("a", format))+1)
		wantNoDecode(t, lineOf("a", format)+"\n\r", format, api.ErrTail, len(lineOf("a", format))+1)
		line, _ := longLine(8192, format)
		wantNoDecode(t, line+"\r\n", format, api.ErrLong, 0)
	}
}

// P13.3: 1000 lines, and the 1001st, right, wrong, empty, too long, and without a line feed.
func TestTooManyLines(t *testing.T) {
	for _, format := range ofLines() {
		ahead := fed(linesOf(1000, format))
		long := strings.Repeat("x", 8193)
		for _, line := range []string{lineOf("a", format), "x", "", " ", long} {
			wantNoDecode(t, ahead+line+"\n", format, api.ErrLong, len(ahead))
			wantNoDecode(t, ahead+line+"\n"+line+"\n", format, api.ErrLong, len(ahead))
			wantNoDecode(t, ahead+line+"\n"+line, format, api.ErrLong, len(ahead))
			if line != "" {
				wantNoDecode(t, ahead+line, format, api.ErrLong, len(ahead))
			}
		}
		wantNoDecode(t, ahead+ahead+ahead, format, api.ErrLong, len(ahead))
		// a line ahead that is wrong goes ahead
		most := fed(linesOf(999, format))
		for _, behind := range []string{"", "\n", "x", "x\n", lineOf("a", format) + "\n", ahead} {
			wantNoDecode(t, most+"\n"+behind, format, api.ErrName, len(most))
			wantNoDecode(t, most+long+"\n"+behind, format, api.ErrLong, len(most))
			wantNoDecode(t, "\n"+most+behind, format, api.ErrName, 0)
		}
		wantNoDecode(t, most+"x", format, api.ErrTail, len(most))
		wantDecode(t, most, format, rowOf(999, format))
	}
}

// P13.3: each fault on the first line and on later ones, at its place; of two the first one in the text is told.
func TestFaultsInOrder(t *testing.T) {
	wrongs := map[int][]string{
		api.StatsD:   {"", "a b:1|c", "a", "a:", "a:x|c", "a:1", "a:1|x", "a:-1|g", "a:1|c|x", "a:1|c|@2", "a:1|g|@0.5", "a:1|c|@0.5|"},
		api.Dog:      {"", "a b:1|c", "a", "a:", "a:1:x|c", "a:1", "a:1|x", "a:1|c|x", "a:1|c|@2", "a:1|g|@0.5", "a:1|c|#a:", "a:1|c|T0", "a:1|c|T7|@1", "a" + strings.Repeat(":1", 65) + "|c"},
		api.Graphite: {"", "a:b 1 5", "a", "a ", "a x 5", "a 1", "a 1 0", "a 1 5 "},
	}
	for _, format := range ofLines() {
		all := append(wrongs[format], strings.Repeat("x", 8193))
		for _, wrong := range all {
			_, f := parseByItsWords(wrong, format)
			if f == (api.Fault{}) {
				t.Errorf("%q is right in %d", wrong, format)
			}
			for n := range 4 {
				ahead := fed(linesOf(n, format))
				s := ahead + wrong + "\n"
				wantNoDecode(t, s, format, f.Code, len(ahead)+f.At)
				wantNoDecode(t, s+lineOf("b", format)+"\n", format, f.Code, len(ahead)+f.At)
				wantNoDecode(t, s+"x", format, f.Code, len(ahead)+f.At)
				for _, second := range all {
					wantNoDecode(t, s+second+"\n", format, f.Code, len(ahead)+f.At)
				}
				// without a line feed it is a tail, however wrong
				if wrong != "" {
					wantNoDecode(t, ahead+wrong, format, api.ErrTail, len(ahead))
				}
			}
		}
	}
}

// P13.4: bytes behind others, whole, with a fault in the first ones, and with one in those behind.
func TestBytesBehindOthers(t *testing.T) {
	for _, format := range ofLines() {
		for _, n := range []int{0, 1, 2, 500, 999, 1000} {
			first, metrics := fed(linesOf(n, format)), rowOf(n, format)
			for _, m := range []int{0, 1, 3, 500} {
				behind := fed(linesOf(m, format))
				if n+m > 1000 {
					wantNoDecode(t, first+behind, format, api.ErrLong, len(fed(append(linesOf(n, format), linesOf(m, format)...)[:1000])))
					continue
				}
				wantDecode(t, first+behind, format, append(rowOf(n, format), rowOf(m, format)...))
			}
			if n < 1000 {
				wantNoDecode(t, first+"x\n", format, decodeFault("x\n", format).Code, len(first)+1)
				wantNoDecode(t, first+"x", format, api.ErrTail, len(first))
			}
			wantNoDecode(t, "x\n"+first, format, api.ErrForm, 1)
			// what is decoded behind a fault is not another's
			wantDecode(t, first, format, metrics)
		}
		// bytes that end without a line feed join the first line behind them
		wantNoDecode(t, "x"+lineOf(strings.Repeat("n", 200), format)+"\n", format, api.ErrName, 0)
	}
}

// P13.4: lists at random, there and back, in each format that can say them; two are written alike just if their
// Normals are the same.
func TestThereAndBack(t *testing.T) {
	r := rand.New(rand.NewSource(13))
	told := map[string][]api.Metric{}
	said := [5]int{}
	for range 6000 {
		l := []api.Metric{}
		bare := r.Intn(3)
		for range r.Intn(5) {
			l = append(l, atRandom(r, bare))
		}
		form, _, code := batch.Normal(l)
		if code != api.OK {
			continue
		}
		for _, format := range ofLines() {
			if at, code := expr.Batch(form, format); code != api.OK {
				wantWrong(t, l, format, at, code)
				continue
			}
			said[format]++
			b, at, code := text.Encode(l, format)
			if at != 0 || code != api.OK {
				t.Fatalf("Encode(%v, %d) is %d, %v", l, format, at, code)
			}
			wantDecode(t, string(b), format, form)
			wantLines(t, l, format, strings.Split(string(b), "\n")[:len(l)])
			if other, ok := told[strconv.Itoa(format)+string(b)]; ok && !same(other, form) {
				t.Errorf("%q are the bytes of %v and of %v in %d", b, other, form, format)
			}
			told[strconv.Itoa(format)+string(b)] = form
		}
	}
	for _, format := range ofLines() {
		if said[format] < 1000 {
			t.Errorf("only %d batches in %d", said[format], format)
		}
	}
}

// atRandom is a metric that most often has a Normal; a bare one is such as StatsD (1) or Graphite (2) says.
func atRandom(r *rand.Rand, bare int) api.Metric {
	number := func() api.Dec {
		return api.Dec{Neg: r.Intn(3) == 0, Coef: r.Uint64() >> (40 + r.Intn(25)), Exp: r.Intn(9) - 4}
	}
	m := api.Metric{Name: string(rune('a' + r.Intn(3))), Kind: 1 + r.Intn(4), Values: []api.Dec{number()}, Rate: 1000000}
	if m.Kind != api.Gauge && r.Intn(2) == 0 {
		m.Rate = 1 + r.Intn(1000000)
	}
	switch bare {
	case 0:
		m.Time = r.Intn(3)
		for range r.Intn(4) {
			m.Values = append(m.Values, number())
		}
		for range r.Intn(4) {
			m.Tags = append(m.Tags, api.Tag{Key: string(rune('k' + r.Intn(3))), Value: []string{"", "1", "2"}[r.Intn(3)]})
		}
	case 1:
		m.Values[0].Neg = m.Kind != api.Gauge && m.Values[0].Neg
	default:
		m.Kind, m.Rate, m.Time = api.Gauge, api.OneRate, 1+r.Intn(1<<40)>>r.Intn(40)
	}
	return m
}

// P13.3: all short texts of some bytes, and all short endings of some texts, by the promise's words.
func TestDecodeByItsWords(t *testing.T) {
	for _, format := range ofLines() {
		texts("a1:|c\n", 6, func(s string) { wantByItsWords(t, s, format) })
		texts("a1 \n", 7, func(s string) { wantByItsWords(t, s, format) })
		for _, ahead := range []string{lineOf("a", format), lineOf("a", format) + "\n", lineOf("a", format) + "\n" + lineOf("b", format)[:3]} {
			texts("a1 :|g\n\r", 4, func(s string) { wantByItsWords(t, ahead+s, format) })
		}
	}
}

// P13.3: texts of several lines, of which some bytes were changed, by the promise's words.
func TestChangedTexts(t *testing.T) {
	r := rand.New(rand.NewSource(14))
	const alphabet = "aZ09_.-:|@/#T, \t\r\n\n\n\x00\xff"
	for _, format := range ofLines() {
		for _, line := range []string{fed(linesOf(3, format)), fed(linesOf(2, format)) + "a", "a:1|c\nb:2|g\n", "a 1 5\nb 2 6\n"} {
			for range 10000 {
				b := []byte(line)
				for range 1 + r.Intn(3) {
					at := r.Intn(len(b))
					switch other := alphabet[r.Intn(len(alphabet))]; r.Intn(3) {
					case 0:
						b[at] = other
					case 1:
						b = slices.Insert(b, at, other)
					default:
						b = slices.Delete(b, at, at+1)
						b = append(b, other)
					}
				}
				wantByItsWords(t, string(b), format)
			}
		}
	}
}

// P13.3: what stands behind the length of the bytes is not asked, and not turned.
func TestBehindTheLength(t *testing.T) {
	for _, format := range ofLines() {
		all := []byte(fed(linesOf(3, format)) + "x\n\n" + lineOf("a", format) + "\n")
		was := bytes.Clone(all)
		for n := range len(all) + 1 {
			l, f := text.Decode(all[:n], format)
			want, fault := decodeByItsWords(slices.Clip(was[:n]), format)
			if f != fault || !same(l, want) {
				t.Errorf("Decode(%q, %d) is %v, %v, not %v, %v", all[:n], format, l, f, want, fault)
			}
			scribble(l)
		}
		if !bytes.Equal(all, was) {
			t.Errorf("%q became %q", was, all)
		}
	}
}

// The chapter's examples.
func TestExamples(t *testing.T) {
	a := api.Metric{Name: "a", Kind: api.Counter, Values: []api.Dec{{Coef: 1}}, Rate: 1000000}
	b := api.Metric{Name: "b", Kind: api.Gauge, Values: []api.Dec{{Coef: 2}}, Rate: 1000000}
	wantDecode(t, "a:1|c\nb:2|g\n", api.StatsD, []api.Metric{a, b})
	wantNoDecode(t, "a:1|c\nb:x|g\n", api.StatsD, api.ErrValue, 8)
	wantNoDecode(t, "a:1|c", api.StatsD, api.ErrTail, 0)
	wantNoDecode(t, "\n", api.StatsD, api.ErrName, 0)
	wantNoDecode(t, "a:1|c\n\nb:2|g\n", api.StatsD, api.ErrName, 6)
}

// P13.1, P13.3, P13.4 at any text, in any format.
func FuzzDecode(f *testing.F) {
	for _, s := range []string{"", "\n", "\n\n", "a", "a:1|c", "a:1|c\n", "a:1|c\nb:2|g\n", "a:1|c\nb:x|g\n", "a 1 5\nb 2 6\n", "a:1:2|d|@0.5|#k:v,l|T7\n", "a:1|c\r\n", "a 1 5\nx"} {
		for format := range 5 {
			f.Add(s, format)
		}
	}
	f.Fuzz(wantByItsWords)
}
