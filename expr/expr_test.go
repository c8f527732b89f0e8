package expr_test

import (
	"math"
	"math/rand"
	"slices"
	"strconv"
	"strings"
	"testing"

	"forebay/api"
	"forebay/expr"
)

// turn is a change of a metric.
type turn func(m *api.Metric)

// bare is a metric of one value, without tags and time.
func bare(kind int, turns ...turn) api.Metric {
	m := api.Metric{Name: "a.b", Kind: kind, Values: []api.Dec{{Coef: 25, Exp: -1}}, Rate: api.OneRate}
	return with(m, turns...)
}

// full is a metric of several values, tags that are not in order, and a time.
func full(kind int, turns ...turn) api.Metric {
	m := api.Metric{Name: "a.b-c_9", Kind: kind, Values: []api.Dec{{Coef: 1}, {Neg: true, Coef: 3}, {}, {Coef: 1}}, Rate: api.OneRate,
		Tags: row("b", "x", "a", "", "b", "x"), Time: 1700000000}
	return with(m, turns...)
}

func with(m api.Metric, turns ...turn) api.Metric {
	m = keptOne(m)
	for _, t := range turns {
		t(&m)
	}
	return m
}

func name(s string) turn       { return func(m *api.Metric) { m.Name = s } }
func kind(n int) turn          { return func(m *api.Metric) { m.Kind = n } }
func rate(n int) turn          { return func(m *api.Metric) { m.Rate = n } }
func time(n int) turn          { return func(m *api.Metric) { m.Time = n } }
func tagged(l ...api.Tag) turn { return func(m *api.Metric) { m.Tags = slices.Clone(l) } }
func valued(l ...api.Dec) turn { return func(m *api.Metric) { m.Values = slices.Clone(l) } }

// row are tags, by keys and values in turn.
func row(words ...string) []api.Tag {
	l := []api.Tag{}
	for i := 0; i < len(words); i += 2 {
		l = append(l, api.Tag{Key: words[i], Value: words[i+1]})
	}
	return l
}

// fault is a change after which a metric is not right, and how that is told.
type fault struct {
	wrong turn
	code  api.Errno
}

func faults() []fault {
	return []fault{{name("a b"), api.ErrName}, {kind(6), api.ErrKind}, {valued(), api.ErrValue}, {rate(0), api.ErrRate},
		{tagged(api.Tag{}), api.ErrTag}, {time(-1), api.ErrTime},
		{name(""), api.ErrName}, {name(strings.Repeat("n", 201)), api.ErrName}, {kind(0), api.ErrKind}, {kind(-1), api.ErrKind},
		{valued(api.Dec{Coef: 10}), api.ErrValue}, {valued(api.Dec{Neg: true}), api.ErrValue},
		{valued(api.Dec{Coef: 1}, api.Dec{Coef: 1, Exp: 19}), api.ErrValue}, {valued(slices.Repeat([]api.Dec{{Coef: 1}}, 65)...), api.ErrValue},
		{rate(api.OneRate + 1), api.ErrRate}, {rate(-5), api.ErrRate},
		{tagged(slices.Repeat(row("a", ""), 33)...), api.ErrTag}, {tagged(row("a", "", "b:", "")...), api.ErrTag},
		{time(api.MaxTime + 1), api.ErrTime}, {time(math.MinInt), api.ErrTime}}
}

// kinds are those of metrics.
func kinds() []int { return []int{api.Counter, api.Gauge, api.Timer, api.Hist, api.Dist} }

// formats are those that there are.
func formats() []int { return []int{api.StatsD, api.Dog, api.Graphite, api.Binary} }

// noFormats are numbers that are none.
func noFormats() []int {
	return []int{0, 5, -1, -2, -4, 6, 7, 100, 255, 257, 1<<16 + 2, 1<<32 + 3, -(1 << 32) + 4, math.MinInt + 1, math.MinInt, math.MaxInt}
}

// numbers are values below 0, of 0 and above it, and how many are below.
func numbers() (all []api.Dec, below int) {
	return []api.Dec{{Neg: true, Coef: 1}, {Neg: true, Coef: 25, Exp: -1}, {Neg: true, Coef: 1, Exp: -18}, {Neg: true, Coef: math.MaxUint64, Exp: 18},
		{}, {Coef: 1}, {Coef: 25, Exp: -1}, {Coef: 1, Exp: -18}, {Coef: math.MaxUint64, Exp: 18}, {Coef: 1 << 63}}, 4
}

// keptOne is a metric of its own, made without the packages that are tested.
func keptOne(m api.Metric) api.Metric {
	m.Values = append([]api.Dec(nil), m.Values...)
	m.Tags = append([]api.Tag(nil), m.Tags...)
	return m
}

func kept(l []api.Metric) []api.Metric {
	own := []api.Metric{}
	for _, m := range l {
		own = append(own, keptOne(m))
	}
	return own
}

// asOneStands holds two metrics against each other, without the packages that are tested.
func asOneStands(a, b api.Metric) bool {
	return a.Name == b.Name && a.Kind == b.Kind && a.Rate == b.Rate && a.Time == b.Time &&
		slices.Equal(a.Values, b.Values) && slices.Equal(a.Tags, b.Tags)
}

func asItStands(a, b []api.Metric) bool { return slices.EqualFunc(a, b, asOneStands) }

// few is a batch as a fault's report tells it: of many metrics only how many.
func few(l []api.Metric) any {
	if len(l) > 5 {
		return strconv.Itoa(len(l)) + " metrics"
	}
	return l
}

// scribble writes into all memory that metrics have, also behind the lengths of their lists.
func scribble(l []api.Metric) {
	l = l[:cap(l)]
	for i := range l {
		values, tags := l[i].Values[:cap(l[i].Values)], l[i].Tags[:cap(l[i].Tags)]
		for j := range values {
			values[j] = api.Dec{Neg: true, Coef: 4711, Exp: -7}
		}
		for j := range tags {
			tags[j] = api.Tag{Key: "over", Value: "written"}
		}
		l[i] = api.Metric{Name: "over written", Kind: -1, Rate: -1, Time: -1}
	}
}

// roomy is a metric with more memory behind the lengths of its lists.
func roomy(m api.Metric) api.Metric {
	m.Values = append(make([]api.Dec, 0, 90), m.Values...)
	m.Tags = append(make([]api.Tag, 0, 90), m.Tags...)
	return m
}

// whole is a metric up to all that stands behind its lists.
func whole(m api.Metric) api.Metric {
	m.Values = m.Values[:cap(m.Values)]
	m.Tags = m.Tags[:cap(m.Tags)]
	return m
}

// canByItsWords is what the chapter says of what a format can say, of metrics that are right.
func canByItsWords(m api.Metric, format int) bool {
	switch format {
	case 1:
		return len(m.Values) == 1 && len(m.Tags) == 0 && m.Time == 0 && (m.Kind == 1 || m.Kind == 2 && !m.Values[0].Neg || m.Kind == 3 || m.Kind == 4)
	case 3:
		return m.Kind == 2 && len(m.Values) == 1 && len(m.Tags) == 0 && m.Time != 0
	}
	return true
}

// cutByItsWords is what P9.2 says of Cut, of metrics that are right.
func cutByItsWords(m api.Metric, format int) []api.Metric {
	if format == 2 || format == 4 {
		return []api.Metric{keptOne(m)}
	}
	l := []api.Metric{}
	for _, d := range m.Values {
		one := with(m, valued(d), tagged())
		if format == 1 {
			one.Time = 0
		}
		if canByItsWords(one, format) {
			l = append(l, one)
		}
	}
	return l
}

// wantMetric asks Batch of that one alone as well.
func wantMetric(t *testing.T, m api.Metric, format int, code api.Errno) {
	t.Helper()
	was := keptOne(m)
	if got := expr.Metric(m, format); got != code {
		t.Errorf("Metric(%v, %d) is %v, not %v", was, format, got, code)
	}
	if at, got := expr.Batch([]api.Metric{m}, format); at != 0 || got != code {
		t.Errorf("Batch(%v alone, %d) is %v, %v, not %v", was, format, at, got, code)
	}
	if !asOneStands(m, was) {
		t.Errorf("%v became %v", was, m)
	}
}

func wantBatch(t *testing.T, l []api.Metric, format, at int, code api.Errno) {
	t.Helper()
	was := kept(l)
	if gotAt, got := expr.Batch(l, format); gotAt != at || got != code {
		t.Errorf("Batch(%v, %d) is %v, %v, not %v, %v", few(was), format, gotAt, got, at, code)
	}
	if !asItStands(l, was) {
		t.Errorf("%v became %v", few(was), few(l))
	}
}

// wantFormats is of a metric that is right. It writes into what is told as well: the next answer has its own.
func wantFormats(t *testing.T, m api.Metric, want ...int) {
	t.Helper()
	was := keptOne(m)
	for range 3 {
		got := expr.Formats(m)
		if !slices.Equal(got, want) {
			t.Errorf("Formats(%v) is %v, not %v", was, got, want)
		}
		got = got[:cap(got)]
		for i := range got {
			got[i] = 4711
		}
	}
	if !asOneStands(m, was) {
		t.Errorf("%v became %v", was, m)
	}
	for _, format := range formats() {
		code := api.ErrExpress
		if slices.Contains(want, format) {
			code = api.OK
		}
		wantMetric(t, m, format, code)
	}
}

// wantCut asks for P9.3 as well: what is told can be said, and is cut to itself alone.
func wantCut(t *testing.T, m api.Metric, format int, want ...api.Metric) {
	t.Helper()
	was := keptOne(m)
	l, code := expr.Cut(m, format)
	if code != api.OK || !asItStands(l, want) {
		t.Errorf("Cut(%v, %d) is %v, %v, not %v", was, format, few(l), code, few(want))
		return
	}
	wantBatch(t, l, format, 0, api.OK)
	for i := range l {
		wantMetric(t, l[i], format, api.OK)
		again, code := expr.Cut(l[i], format)
		if code != api.OK || !asItStands(again, want[i:i+1]) {
			t.Errorf("Cut(%v, %d) is %v, %v", l[i], format, few(again), code)
		}
	}
	scribble(l)
	if !asOneStands(m, was) {
		t.Errorf("what is written into what %v is cut to shows: %v", was, m)
	}
}

func wantNoCut(t *testing.T, m api.Metric, format int, code api.Errno) {
	t.Helper()
	was := keptOne(m)
	if l, got := expr.Cut(m, format); len(l) != 0 || got != code {
		t.Errorf("Cut(%v, %d) is %v, %v, not %v", was, format, few(l), got, code)
	}
	if !asOneStands(m, was) {
		t.Errorf("%v became %v", was, m)
	}
}

// wantWrong is of a metric that is not right.
func wantWrong(t *testing.T, m api.Metric, code api.Errno) {
	t.Helper()
	if l := expr.Formats(m); len(l) != 0 {
		t.Errorf("Formats(%v) is %v", m, l)
	}
	for _, format := range formats() {
		wantMetric(t, m, format, code)
		wantNoCut(t, m, format, code)
	}
	wantNoFormat(t, m)
}

func wantNoFormat(t *testing.T, m api.Metric) {
	t.Helper()
	for _, format := range noFormats() {
		wantMetric(t, m, format, api.ErrFormat)
		wantNoCut(t, m, format, api.ErrFormat)
	}
}

// P9.1, P9.2: a number that is no format is told ahead of all else.
func TestNoFormat(t *testing.T) {
	for _, k := range kinds() {
		wantNoFormat(t, bare(k))
		wantNoFormat(t, bare(k, time(5)))
		wantNoFormat(t, full(k))
	}
	wantNoFormat(t, api.Metric{})
	for _, format := range noFormats() {
		wantBatch(t, nil, format, 0, api.ErrFormat)
		wantBatch(t, []api.Metric{}, format, 0, api.ErrFormat)
		wantBatch(t, []api.Metric{bare(api.Counter), full(api.Dist)}, format, 0, api.ErrFormat)
		wantBatch(t, []api.Metric{bare(api.Counter), {}}, format, 0, api.ErrFormat)
		wantBatch(t, slices.Repeat([]api.Metric{bare(api.Counter)}, 1001), format, 0, api.ErrFormat)
		wantBatch(t, make([]api.Metric, 1001), format, 0, api.ErrFormat)
	}
}

// P9.1, P9.2: each of metric's errors, of metrics that could be said else, and of such that could not.
func TestMetricsThatAreNotRight(t *testing.T) {
	for _, f := range faults() {
		for _, k := range kinds() {
			if f.code == api.ErrKind && k != api.Counter {
				continue // the same metric again
			}
			wantWrong(t, bare(k, f.wrong), f.code)
			if f.code != api.ErrTime {
				wantWrong(t, bare(k, time(5), f.wrong), f.code)
			}
			wantWrong(t, full(k, f.wrong), f.code)
		}
	}
	wantWrong(t, api.Metric{}, api.ErrName)
	wantWrong(t, bare(api.Gauge, rate(500000)), api.ErrRate)
	wantWrong(t, full(api.Gauge, rate(500000)), api.ErrRate)
	// of several the one that metric.Check tells first
	wantWrong(t, full(api.Timer, time(-1), kind(0), tagged(api.Tag{})), api.ErrKind)
	wantWrong(t, full(api.Timer, time(-1), tagged(api.Tag{})), api.ErrTag)
	// what is cut away has to be right, too, and so has each value, also one that could not be said
	wantWrong(t, full(api.Gauge, valued(api.Dec{Coef: 1}, api.Dec{Neg: true, Coef: 10})), api.ErrValue)
}

// P9.1: each kind with each value.
func TestWhatStatsDCanSay(t *testing.T) {
	all, below := numbers()
	for i, d := range all {
		for _, k := range []int{api.Counter, api.Timer, api.Hist} {
			for _, r := range []int{1, 250000, api.OneRate - 1, api.OneRate} {
				wantFormats(t, bare(k, valued(d), rate(r)), 1, 2, 4)
			}
		}
		if i < below {
			wantFormats(t, bare(api.Gauge, valued(d)), 2, 4)
		} else {
			wantFormats(t, bare(api.Gauge, valued(d)), 1, 2, 4)
		}
		wantFormats(t, bare(api.Dist, valued(d)), 2, 4)
	}
	wantFormats(t, bare(api.Timer, name(strings.Repeat("n", 200))), 1, 2, 4)
}

// P9.1: what is too much for StatsD, one by one.
func TestWhatStatsDCannotSay(t *testing.T) {
	for _, k := range []int{api.Counter, api.Timer, api.Hist, api.Dist} {
		wantFormats(t, bare(k, valued(api.Dec{Coef: 1}, api.Dec{Coef: 2})), 2, 4)
		wantFormats(t, bare(k, valued(api.Dec{}, api.Dec{})), 2, 4)
		wantFormats(t, bare(k, valued(slices.Repeat([]api.Dec{{Coef: 1}}, 64)...)), 2, 4)
		wantFormats(t, bare(k, tagged(row("k", "")...)), 2, 4)
		wantFormats(t, bare(k, tagged(row("a", "1", "b", "2")...)), 2, 4)
		for _, at := range []int{1, 2, 1700000000, api.MaxTime} {
			wantFormats(t, bare(k, time(at)), 2, 4)
		}
		wantFormats(t, full(k), 2, 4)
		wantFormats(t, full(k, time(0)), 2, 4)
	}
}

// P9.1: each kind with a time, and gauges with each value.
func TestWhatGraphiteCanSay(t *testing.T) {
	all, _ := numbers()
	for _, at := range []int{1, 2, 1700000000, api.MaxTime - 1, api.MaxTime} {
		for _, d := range all {
			wantFormats(t, bare(api.Gauge, valued(d), time(at)), 2, 3, 4)
		}
		for _, k := range []int{api.Counter, api.Timer, api.Hist, api.Dist} {
			wantFormats(t, bare(k, time(at)), 2, 4)
		}
	}
}

// P9.1: what is too much for Graphite, or not enough.
func TestWhatGraphiteCannotSay(t *testing.T) {
	for _, at := range []int{0, 5} {
		wantFormats(t, bare(api.Gauge, time(at), valued(api.Dec{Coef: 1}, api.Dec{Coef: 2})), 2, 4)
		wantFormats(t, bare(api.Gauge, time(at), valued(slices.Repeat([]api.Dec{{}}, 64)...)), 2, 4)
		wantFormats(t, bare(api.Gauge, time(at), tagged(row("k", "")...)), 2, 4)
		wantFormats(t, bare(api.Gauge, time(at), tagged(row("k", "v", "k", "v")...)), 2, 4)
		wantFormats(t, full(api.Gauge, time(at)), 2, 4)
	}
	wantFormats(t, bare(api.Gauge, valued(api.Dec{Neg: true, Coef: 1})), 2, 4)
}

// P9.1: a list without elements is as good as nil.
func TestListsWithoutElements(t *testing.T) {
	for _, tags := range [][]api.Tag{nil, {}, make([]api.Tag, 0, 9), row("over", "")[:0]} {
		none := func(m *api.Metric) { m.Tags = tags }
		wantFormats(t, bare(api.Counter, none), 1, 2, 4)
		wantFormats(t, bare(api.Gauge, none, time(5)), 2, 3, 4)
		wantCut(t, bare(api.Counter, none), api.StatsD, bare(api.Counter))
		wantCut(t, bare(api.Gauge, none, time(5)), api.Graphite, bare(api.Gauge, time(5)))
	}
	for _, values := range [][]api.Dec{nil, {}, make([]api.Dec, 0, 9), {{Coef: 1}}} {
		wantWrong(t, bare(api.Counter, func(m *api.Metric) { m.Values = values[:0] }), api.ErrValue)
	}
}

// sayable is a metric that a format can say, and unsayable one that it cannot.
func sayable(format int) api.Metric {
	if format == api.Graphite {
		return bare(api.Gauge, time(5))
	}
	return bare(api.Gauge)
}

func unsayable() []api.Metric {
	return []api.Metric{full(api.Counter), bare(api.Dist), bare(api.Counter, tagged(row("a", "")...)), bare(api.Gauge, valued(api.Dec{Neg: true, Coef: 1})),
		bare(api.Timer, time(5)), bare(api.Gauge, valued(api.Dec{}, api.Dec{})), bare(api.Gauge, time(5), tagged(row("a", "")...))}
}

// rowOf are so many metrics that a format can say, with others at some places.
func rowOf(format, n int, others map[int]api.Metric) []api.Metric {
	l := []api.Metric{}
	for i := range n {
		m := sayable(format)
		if other, ok := others[i]; ok {
			m = other
		}
		l = append(l, m)
	}
	return l
}

// P9.1: none, one, as many as may be, and too many.
func TestBatchesOfSomeLengths(t *testing.T) {
	for _, format := range formats() {
		for _, l := range [][]api.Metric{nil, {}, make([]api.Metric, 0, 5), make([]api.Metric, 3)[:0]} {
			wantBatch(t, l, format, 0, api.OK)
		}
		for _, n := range []int{1, 2, 3, 999, 1000} {
			wantBatch(t, rowOf(format, n, nil), format, 0, api.OK)
		}
		for _, n := range []int{1001, 1002, 3000} {
			wantBatch(t, rowOf(format, n, nil), format, 1000, api.ErrLong)
			wantBatch(t, make([]api.Metric, n), format, 1000, api.ErrLong)
			wantBatch(t, rowOf(format, n, map[int]api.Metric{0: bare(api.Dist)}), format, 1000, api.ErrLong)
			wantBatch(t, rowOf(format, n, map[int]api.Metric{1000: bare(api.Dist)}), format, 1000, api.ErrLong)
		}
	}
}

// P9.1: the first metric that cannot be said, at each place.
func TestBatchesThatCannotBeSaid(t *testing.T) {
	for _, format := range []int{api.StatsD, api.Graphite} {
		for _, other := range unsayable() {
			for _, n := range []int{1, 2, 3, 10} {
				for at := range n {
					wantBatch(t, rowOf(format, n, map[int]api.Metric{at: other}), format, at, api.ErrExpress)
					wantBatch(t, rowOf(format, n, map[int]api.Metric{at: other, n - 1: bare(api.Dist)}), format, at, api.ErrExpress)
				}
			}
			wantBatch(t, rowOf(format, 1000, map[int]api.Metric{999: other}), format, 999, api.ErrExpress)
		}
	}
	for _, format := range []int{api.Dog, api.Binary} {
		wantBatch(t, unsayable(), format, 0, api.OK)
	}
	// what one of the two can say the other cannot
	wantBatch(t, []api.Metric{sayable(api.StatsD), sayable(api.Graphite)}, api.StatsD, 1, api.ErrExpress)
	wantBatch(t, []api.Metric{sayable(api.StatsD), sayable(api.Graphite)}, api.Graphite, 0, api.ErrExpress)
}

// P9.1: a metric that is not right is told ahead of one that cannot be said, wherever that one stands.
func TestBatchesThatAreNotRight(t *testing.T) {
	for _, format := range formats() {
		for _, f := range faults() {
			wrong := with(sayable(format), f.wrong)
			for _, other := range append(unsayable(), sayable(format)) {
				wantBatch(t, []api.Metric{wrong, other}, format, 0, f.code)
				wantBatch(t, []api.Metric{other, wrong}, format, 1, f.code)
				wantBatch(t, []api.Metric{other, other, wrong, other}, format, 2, f.code)
				wantBatch(t, rowOf(format, 10, map[int]api.Metric{0: other, 5: wrong, 9: {}}), format, 5, f.code)
			}
			wantBatch(t, rowOf(format, 1000, map[int]api.Metric{0: bare(api.Dist), 999: wrong}), format, 999, f.code)
		}
	}
}

// P9.2: Dog and Binary say it as it stands.
func TestCutToDogAndBinary(t *testing.T) {
	for _, format := range []int{api.Dog, api.Binary} {
		for _, k := range kinds() {
			for _, m := range []api.Metric{bare(k), bare(k, time(5)), full(k), full(k, time(0)), full(k, tagged()), bare(k, tagged(row("b", "", "a", "1")...))} {
				wantCut(t, m, format, m)
			}
		}
		most := full(api.Hist, valued(slices.Repeat([]api.Dec{{Neg: true, Coef: 1}}, 64)...), tagged(slices.Repeat(row("b", "", "a", ""), 16)...), time(api.MaxTime), rate(1))
		wantCut(t, most, format, most)
	}
}

// P9.2: a metric for each value, with its name, kind and rate, without tags and time.
func TestCutToStatsD(t *testing.T) {
	for _, k := range []int{api.Counter, api.Timer, api.Hist} {
		for _, r := range []int{1, 250000, api.OneRate} {
			m := full(k, rate(r))
			var want []api.Metric
			for _, d := range m.Values {
				want = append(want, with(m, valued(d), tagged(), time(0)))
			}
			wantCut(t, m, api.StatsD, want...)
			for _, less := range []turn{tagged(), time(0)} {
				wantCut(t, with(m, less), api.StatsD, want...)
			}
			wantCut(t, with(m, valued(m.Values[1])), api.StatsD, want[1])
			wantCut(t, want[1], api.StatsD, want[1])
		}
		wantCut(t, bare(k, time(api.MaxTime)), api.StatsD, bare(k))
		wantCut(t, bare(k, tagged(row("k", "")...)), api.StatsD, bare(k))
		wantCut(t, bare(k), api.StatsD, bare(k))
	}
}

// P9.2: the values of a gauge that are below 0 are left out.
func TestCutOfGaugesToStatsD(t *testing.T) {
	all, below := numbers()
	var want []api.Metric
	for _, d := range all[below:] {
		want = append(want, bare(api.Gauge, valued(d)))
	}
	wantCut(t, bare(api.Gauge, valued(all...)), api.StatsD, want...)
	wantCut(t, bare(api.Gauge, valued(all...), time(5), tagged(row("b", "", "a", "")...)), api.StatsD, want...)
	slices.Reverse(all)
	slices.Reverse(want)
	wantCut(t, bare(api.Gauge, valued(all...)), api.StatsD, want...)
	for _, d := range all {
		if d.Neg {
			wantNoCut(t, bare(api.Gauge, valued(d)), api.StatsD, api.ErrExpress)
			wantNoCut(t, bare(api.Gauge, valued(d, d), time(5)), api.StatsD, api.ErrExpress)
			wantCut(t, bare(api.Gauge, valued(d, api.Dec{}, d)), api.StatsD, bare(api.Gauge, valued(api.Dec{})))
		}
	}
	wantNoCut(t, full(api.Gauge, valued(slices.Repeat([]api.Dec{{Neg: true, Coef: 1}}, 64)...)), api.StatsD, api.ErrExpress)
	last := append(slices.Repeat([]api.Dec{{Neg: true, Coef: 1}}, 63), api.Dec{Coef: 7})
	wantCut(t, full(api.Gauge, valued(last...)), api.StatsD, full(api.Gauge, valued(api.Dec{Coef: 7}), tagged(), time(0)))
}

// P9.2: a gauge with a time is cut to each of its values, with that time.
func TestCutToGraphite(t *testing.T) {
	all, _ := numbers()
	for _, at := range []int{1, 1700000000, api.MaxTime} {
		var want []api.Metric
		for _, d := range all {
			want = append(want, bare(api.Gauge, valued(d), time(at)))
			wantCut(t, bare(api.Gauge, valued(d), time(at)), api.Graphite, bare(api.Gauge, valued(d), time(at)))
			wantCut(t, bare(api.Gauge, valued(d), time(at), tagged(row("a", "")...)), api.Graphite, bare(api.Gauge, valued(d), time(at)))
		}
		wantCut(t, bare(api.Gauge, valued(all...), time(at)), api.Graphite, want...)
		wantCut(t, bare(api.Gauge, valued(all...), time(at), tagged(slices.Repeat(row("b", ""), 32)...)), api.Graphite, want...)
	}
	var want []api.Metric
	for range 64 {
		want = append(want, bare(api.Gauge, time(5)))
	}
	wantCut(t, bare(api.Gauge, valued(slices.Repeat(bare(api.Gauge).Values, 64)...), time(5)), api.Graphite, want...)
}

// P9.2: what nothing is left of.
func TestCutToNothing(t *testing.T) {
	for _, k := range kinds() {
		for _, m := range []api.Metric{bare(k), full(k), bare(k, tagged(row("a", "")...)), full(k, tagged())} {
			wantNoCut(t, with(m, time(0)), api.Graphite, api.ErrExpress)
			if k != api.Gauge {
				wantNoCut(t, with(m, time(5)), api.Graphite, api.ErrExpress)
			}
			if k == api.Dist {
				wantNoCut(t, m, api.StatsD, api.ErrExpress)
				wantNoCut(t, with(m, time(5)), api.StatsD, api.ErrExpress)
			}
		}
	}
}

// P9.3, R2: what is told shares nothing with what was handed in, nor one of it with another, nor two answers.
func TestCutSharesNothing(t *testing.T) {
	for _, format := range formats() {
		for _, k := range kinds() {
			for _, m := range []api.Metric{bare(k), bare(k, time(5)), full(k), full(k, time(0))} {
				m = roomy(m)
				want := cutByItsWords(m, format)
				if len(want) == 0 {
					continue
				}
				wantOwnMemory(t, m, format, want)
			}
		}
	}
}

func wantOwnMemory(t *testing.T, m api.Metric, format int, want []api.Metric) {
	t.Helper()
	wasWhole := keptOne(whole(m))
	first, _ := expr.Cut(m, format)
	second, _ := expr.Cut(m, format)
	for i := range first {
		scribble(first[i : i+1 : i+1])
		if !asItStands(first[i+1:], want[i+1:]) {
			t.Errorf("what is written into the %d. of Cut(%v, %d) shows in another one: %v", i+1, wasWhole, format, first)
		}
	}
	scribble(first)
	if !asOneStands(whole(m), wasWhole) || !asItStands(second, want) {
		t.Errorf("what is written into Cut(%v, %d) shows: %v, %v", wasWhole, format, m, second)
	}
	scribble([]api.Metric{m})
	if !asItStands(second, want) {
		t.Errorf("what is written into %v shows in Cut to %d: %v", wasWhole, format, second)
	}
}

// R2: with an error nothing is written, either.
func TestErrorsWriteNothing(t *testing.T) {
	for _, m := range []api.Metric{full(api.Dist), full(api.Gauge, valued(api.Dec{Neg: true, Coef: 1}), time(0)), full(api.Timer, rate(0))} {
		m = roomy(m)
		was := keptOne(whole(m))
		for _, format := range append(formats(), 0, 5) {
			expr.Metric(m, format)
			expr.Batch([]api.Metric{m, m}, format)
			expr.Cut(m, format)
			expr.Formats(m)
		}
		if !asOneStands(whole(m), was) {
			t.Errorf("%v became %v", was, m)
		}
	}
}

// wantAll holds what is told of a metric that is right against what the chapter says, and asks for P9.3.
func wantAll(t *testing.T, m api.Metric) {
	t.Helper()
	var can []int
	for _, format := range formats() {
		if canByItsWords(m, format) {
			can = append(can, format)
			wantCut(t, m, format, m)
		}
		if want := cutByItsWords(m, format); len(want) > 0 {
			wantCut(t, m, format, want...)
		} else {
			wantNoCut(t, m, format, api.ErrExpress)
		}
	}
	wantFormats(t, m, can...)
	both := []int{api.StatsD, api.Graphite}
	if l := expr.Formats(m); !slices.Contains(l, api.Dog) || !slices.Contains(l, api.Binary) || len(l) > 3 || slices.Equal(l[:2], both) {
		t.Errorf("Formats(%v) is %v", m, l)
	}
}

// P9.1 to P9.3: metrics of all kinds, with each choice of what they have.
func TestEachChoice(t *testing.T) {
	rows := [][]api.Dec{{{}}, {{Coef: 1}}, {{Neg: true, Coef: 1}}, {{Coef: 1}, {Neg: true, Coef: 3}}, {{Neg: true, Coef: 3}, {Coef: 1}}, {{}, {}}, {{Neg: true, Coef: 3}, {Neg: true, Coef: 3}}}
	for _, k := range kinds() {
		for _, values := range rows {
			for _, tags := range [][]api.Tag{nil, row("a", ""), row("b", "1", "a", "2", "b", "1")} {
				for _, at := range []int{0, 1, api.MaxTime} {
					for _, r := range []int{1, api.OneRate} {
						if k != api.Gauge || r == api.OneRate {
							wantAll(t, bare(k, valued(values...), tagged(tags...), time(at), rate(r)))
						}
					}
				}
			}
		}
	}
}

// rightOne is a metric that is right, by chance.
func rightOne(source *rand.Rand) api.Metric {
	m := api.Metric{Name: "ab"[:1+source.Intn(2)], Kind: 1 + source.Intn(5), Rate: api.OneRate, Time: source.Intn(3)}
	if m.Kind != api.Gauge && source.Intn(2) == 0 {
		m.Rate = 1 + source.Intn(api.OneRate)
	}
	all, _ := numbers()
	for range 1 + source.Intn(3) {
		m.Values = append(m.Values, all[source.Intn(len(all))])
	}
	for range max(0, source.Intn(5)-2) {
		m.Tags = append(m.Tags, api.Tag{Key: string("ab"[source.Intn(2)])})
	}
	return m
}

// firstThat is the place of the first metric of which wrong tells something, and that.
func firstThat(l []api.Metric, wrong func(m api.Metric) api.Errno) (int, api.Errno) {
	for at, m := range l {
		if code := wrong(m); code != api.OK {
			return at, code
		}
	}
	return 0, api.OK
}

// P9.1 to P9.3: metrics and batches by chance.
func TestByItsWords(t *testing.T) {
	source := rand.New(rand.NewSource(91))
	said, wrong := 0, 0
	for range 5000 {
		l := []api.Metric{}
		bad := map[string]api.Errno{}
		for i := range source.Intn(5) {
			m := rightOne(source)
			wantAll(t, m)
			m.Name = "n" + strconv.Itoa(i)
			if source.Intn(20) == 0 {
				f := faults()[3+source.Intn(3)]
				f.wrong(&m)
				bad[m.Name] = f.code
			}
			l = append(l, m)
		}
		for _, format := range formats() {
			at, code := firstThat(l, func(m api.Metric) api.Errno { return bad[m.Name] })
			if code == api.OK {
				at, code = firstThat(l, func(m api.Metric) api.Errno {
					if canByItsWords(m, format) {
						return api.OK
					}
					return api.ErrExpress
				})
			} else {
				wrong++
			}
			if code == api.OK && len(l) > 0 {
				said++
			}
			wantBatch(t, l, format, at, code)
		}
	}
	if said < 1000 || wrong < 1000 {
		t.Errorf("only %d were said, and %d wrong", said, wrong)
	}
}

// R3: what is told hangs on nothing that was asked before.
func TestAskedAgain(t *testing.T) {
	for range 3 {
		for _, k := range kinds() {
			wantAll(t, bare(k))
			wantAll(t, full(k))
			wantNoFormat(t, bare(k))
			wantWrong(t, bare(k, name("")), api.ErrName)
		}
	}
}

// The chapter's examples.
func TestExamples(t *testing.T) {
	m := bare(api.Gauge, valued(api.Dec{Coef: 1}, api.Dec{Neg: true, Coef: 1}), tagged(row("k", "")...), time(5))
	wantCut(t, m, api.StatsD, bare(api.Gauge, valued(api.Dec{Coef: 1})))
	wantCut(t, m, api.Graphite, bare(api.Gauge, valued(api.Dec{Coef: 1}), time(5)), bare(api.Gauge, valued(api.Dec{Neg: true, Coef: 1}), time(5)))
	m.Kind = api.Dist
	wantNoCut(t, m, api.StatsD, api.ErrExpress)
	wantNoCut(t, m, api.Graphite, api.ErrExpress)
}

// P9.1 to P9.3 at any metric, right or not.
func FuzzExpr(f *testing.F) {
	f.Add("a", 2, false, uint64(1), 0, uint64(3), 1000000, "k", "", 5, 1)
	f.Add("a b", 6, true, uint64(10), -19, uint64(0), 0, "", "a:b", -1, 0)
	f.Add("a", 5, true, uint64(math.MaxUint64), 18, uint64(7), 1, "k", "x", 1<<40, 3)
	f.Fuzz(func(t *testing.T, word string, kind int, neg bool, coef uint64, exp int, second uint64, rate int, key, value string, time, format int) {
		m := api.Metric{Name: word, Kind: kind, Values: []api.Dec{{Neg: neg, Coef: coef, Exp: exp}}, Rate: rate, Time: time}
		if second != 0 {
			m.Values = append(m.Values, api.Dec{Coef: second})
		}
		if key != "" {
			m.Tags = row(key, value)
		}
		// a Dog says any metric that is right: what it does not say is not
		if code := expr.Metric(m, api.Dog); code != api.OK {
			wantWrong(t, m, code)
			return
		}
		wantAll(t, m)
		if slices.Contains(formats(), format) {
			return
		}
		wantMetric(t, m, format, api.ErrFormat)
		wantNoCut(t, m, format, api.ErrFormat)
	})
}
