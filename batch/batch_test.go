package batch_test

import (
	"math"
	"math/rand"
	"slices"
	"strconv"
	"testing"

	"forebay/api"
	"forebay/batch"
	"forebay/metric"
)

// turn is a change of a metric.
type turn func(m *api.Metric)

// one is a metric in its one form.
func one() api.Metric {
	return api.Metric{Name: "a.b", Kind: api.Timer, Values: []api.Dec{{Coef: 5}, {Neg: true, Coef: 25, Exp: -1}}, Rate: 250000,
		Tags: row("a", "", "b", "x"), Time: 1700000000}
}

// with is that metric, changed.
func with(turns ...turn) api.Metric {
	m := one()
	for _, t := range turns {
		t(&m)
	}
	return m
}

func name(s string) turn       { return func(m *api.Metric) { m.Name = s } }
func kind(n int) turn          { return func(m *api.Metric) { m.Kind = n } }
func rate(n int) turn          { return func(m *api.Metric) { m.Rate = n } }
func time(n int) turn          { return func(m *api.Metric) { m.Time = n } }
func tagged(l ...api.Tag) turn { return func(m *api.Metric) { m.Tags = slices.Clone(l) } }
func valued(l ...api.Dec) turn { return func(m *api.Metric) { m.Values = slices.Clone(l) } }

// row are tags, by keys and values in turn.
func row(words ...string) []api.Tag {
	l := []api.Tag{}
	for i := 0; i < len(words); i += 2 {
		l = append(l, api.Tag{Key: words[i], Value: words[i+1]})
	}
	return l
}

// named are metrics in their one form, by their names.
func named(names ...string) []api.Metric {
	l := []api.Metric{}
	for _, s := range names {
		l = append(l, with(name(s)))
	}
	return l
}

// rowOf are so many metrics in their one form, each with a name of its own.
func rowOf(n int) []api.Metric {
	l := make([]api.Metric, 0, n)
	for i := range n {
		l = append(l, with(name("n"+strconv.Itoa(i))))
	}
	return l
}

// put is a batch with another metric at a place.
func put(l []api.Metric, at int, m api.Metric) []api.Metric {
	l = kept(l)
	l[at] = m
	return l
}

// fault is a change after which a metric is not right, and has no Normal, and how that is told.
type fault struct {
	wrong turn
	code  api.Errno
}

func faults() []fault {
	return []fault{{name("a b"), api.ErrName}, {kind(6), api.ErrKind}, {valued(), api.ErrValue}, {rate(0), api.ErrRate},
		{tagged(api.Tag{}), api.ErrTag}, {time(-1), api.ErrTime},
		{name(""), api.ErrName}, {kind(0), api.ErrKind}, {valued(api.Dec{Coef: 1, Exp: 38}), api.ErrValue},
		{valued(slices.Repeat([]api.Dec{{Coef: 1}}, 65)...), api.ErrValue}, {kind(api.Gauge), api.ErrRate}, {rate(math.MaxInt), api.ErrRate},
		{tagged(slices.Repeat(row("a", ""), 33)...), api.ErrTag}, {time(math.MinInt), api.ErrTime}}
}

// keptOne is a metric of its own, made without the packages that are tested.
func keptOne(m api.Metric) api.Metric {
	m.Values = append([]api.Dec(nil), m.Values...)
	m.Tags = append([]api.Tag(nil), m.Tags...)
	return m
}

// kept is a batch of its own, made without the package that is tested.
func kept(l []api.Metric) []api.Metric {
	own := []api.Metric{}
	for _, m := range l {
		own = append(own, keptOne(m))
	}
	return own
}

func asOneStands(a, b api.Metric) bool {
	return a.Name == b.Name && a.Kind == b.Kind && a.Rate == b.Rate && a.Time == b.Time &&
		slices.Equal(a.Values, b.Values) && slices.Equal(a.Tags, b.Tags)
}

// asItStands holds two batches against each other, without the package that is tested.
func asItStands(a, b []api.Metric) bool { return slices.EqualFunc(a, b, asOneStands) }

// few is a batch as a fault's report tells it: of many metrics only how many.
func few(l []api.Metric) any {
	if len(l) > 5 {
		return strconv.Itoa(len(l)) + " metrics"
	}
	return l
}

// scribble writes into all memory that a batch has, also behind the lengths of its lists.
func scribble(l []api.Metric) {
	l = l[:cap(l)]
	for i := range l {
		values, tags := l[i].Values[:cap(l[i].Values)], l[i].Tags[:cap(l[i].Tags)]
		for j := range values {
			values[j] = api.Dec{Neg: true, Coef: 4711, Exp: -7}
		}
		for j := range tags {
			tags[j] = api.Tag{Key: "over", Value: "written"}
		}
		l[i] = api.Metric{Name: "over written", Kind: -1, Rate: -1, Time: -1}
	}
}

// whole is a batch up to all that stands behind its length, and behind those of its metrics' lists.
func whole(l []api.Metric) []api.Metric {
	all := slices.Clone(l[:cap(l)])
	for i := range all {
		all[i].Values = all[i].Values[:cap(all[i].Values)]
		all[i].Tags = all[i].Tags[:cap(all[i].Tags)]
	}
	return all
}

// roomy is a batch with more memory behind its length, and behind those of its lists.
func roomy(names ...string) []api.Metric {
	l := make([]api.Metric, 0, 20)
	for _, m := range named(names...) {
		m.Values = append(make([]api.Dec, 0, 20), m.Values...)
		m.Tags = append(make([]api.Tag, 0, 20), m.Tags...)
		l = append(l, m)
	}
	behind := one()
	l[:len(l)+1][len(l)] = behind
	return l
}

func wantCheck(t *testing.T, l []api.Metric, at int, code api.Errno) {
	t.Helper()
	was := kept(l)
	if gotAt, got := batch.Check(l); gotAt != at || got != code {
		t.Errorf("Check(%v) is %v, %v, not %v, %v", few(was), gotAt, got, at, code)
	}
	if !asItStands(l, was) {
		t.Errorf("%v became %v", few(was), few(l))
	}
}

// wantNormal asks for P8.3 as well: a Normal is its own, and the same as what it is of.
func wantNormal(t *testing.T, l, want []api.Metric) {
	t.Helper()
	was := kept(l)
	got, at, code := batch.Normal(l)
	if at != 0 || code != api.OK || !asItStands(got, want) {
		t.Errorf("Normal(%v) is %v, %v, %v, not %v", few(was), few(got), at, code, few(want))
		return
	}
	wantCheck(t, got, 0, api.OK)
	again, at, code := batch.Normal(got)
	if at != 0 || code != api.OK || !asItStands(again, want) {
		t.Errorf("Normal(%v) is %v, %v, %v", few(want), few(again), at, code)
	}
	wantSame(t, l, got, true)
	for i := range l {
		if !metric.Same(l[i], got[i]) || !metric.Is(got[i]) {
			t.Errorf("of Normal(%v) the %d. is %v", few(was), i+1, got[i])
		}
	}
	scribble(got)
	if !asItStands(l, was) || !asItStands(again, want) {
		t.Errorf("what is written into Normal(%v) shows", few(was))
	}
}

func wantNoNormal(t *testing.T, l []api.Metric, at int, code api.Errno) {
	t.Helper()
	was := kept(l)
	got, gotAt, gotCode := batch.Normal(l)
	if len(got) != 0 || gotAt != at || gotCode != code {
		t.Errorf("Normal(%v) is %v, %v, %v, not %v, %v", few(was), few(got), gotAt, gotCode, at, code)
	}
	wantSame(t, l, l, false)
	wantSame(t, l, kept(l), false)
	wantSame(t, l, nil, false)
	wantSame(t, l, named("a"), false)
	if !asItStands(l, was) {
		t.Errorf("%v became %v", few(was), few(l))
	}
}

// wantWrong is of a batch that is not right and has no Normal.
func wantWrong(t *testing.T, l []api.Metric, at int, code api.Errno) {
	t.Helper()
	wantCheck(t, l, at, code)
	wantNoNormal(t, l, at, code)
}

func wantSame(t *testing.T, a, b []api.Metric, want bool) {
	t.Helper()
	wantBothWays(t, "Same", batch.Same, a, b, want)
}

func wantEqual(t *testing.T, a, b []api.Metric, want bool) {
	t.Helper()
	wantBothWays(t, "Equal", batch.Equal, a, b, want)
}

// wantBothWays asks of two batches, and of them turned round.
func wantBothWays(t *testing.T, word string, ask func(a, b []api.Metric) bool, a, b []api.Metric, want bool) {
	t.Helper()
	wasA, wasB := kept(a), kept(b)
	if there, back := ask(a, b), ask(b, a); there != want || back != want {
		t.Errorf("%s(%v, %v) is %v, turned round %v", word, few(a), few(b), there, back)
	}
	if !asItStands(a, wasA) || !asItStands(b, wasB) {
		t.Errorf("%v and %v became %v and %v", few(wasA), few(wasB), few(a), few(b))
	}
}

// wantClone writes into the clone, and into what it is of.
func wantClone(t *testing.T, l []api.Metric) {
	t.Helper()
	was, wasWhole := kept(l), kept(whole(l))
	first, second := batch.Clone(l), batch.Clone(l)
	if !asItStands(first, was) || !asItStands(second, was) {
		t.Errorf("Clone(%v) is %v, and %v", few(was), few(first), few(second))
	}
	scribble(first)
	if !asItStands(whole(l), wasWhole) || !asItStands(second, was) {
		t.Errorf("what is written into a Clone of %v shows", few(was))
	}
	scribble(l)
	if !asItStands(second, was) {
		t.Errorf("what is written into %v shows in its Clone", few(was))
	}
}

// wantNames writes into the names as well: the next answer has its own.
func wantNames(t *testing.T, l []api.Metric, want ...string) {
	t.Helper()
	was := kept(l)
	for range 3 {
		got := batch.Names(l)
		if !slices.Equal(got, want) {
			t.Errorf("Names(%v) is %q, not %q", few(was), got, want)
		}
		for i := range got {
			got[i] = "over written"
		}
	}
	if !asItStands(l, was) {
		t.Errorf("%v became %v", few(was), few(l))
	}
}

// P8.1: none, one, as many as may be, and too many.
func TestHowMany(t *testing.T) {
	for _, l := range [][]api.Metric{nil, {}, make([]api.Metric, 0, 5), rowOf(1), rowOf(2), rowOf(999), rowOf(1000)} {
		wantCheck(t, l, 0, api.OK)
		wantNormal(t, l, l)
	}
	for _, n := range []int{1001, 1002, 2000, 5000} {
		wantWrong(t, rowOf(n), 1000, api.ErrLong)
		wantWrong(t, make([]api.Metric, n), 1000, api.ErrLong)
	}
	wantCheck(t, slices.Repeat(named("a"), 1000), 0, api.OK)
	wantCheck(t, slices.Repeat(named("a"), 1001), 1000, api.ErrLong)
}

// P8.1: that they are too many is told ahead of what is wrong with one of them, wherever it stands.
func TestTooManyIsToldFirst(t *testing.T) {
	for _, f := range faults() {
		for _, at := range []int{0, 1, 500, 999, 1000} {
			wantWrong(t, put(rowOf(1001), at, with(f.wrong)), 1000, api.ErrLong)
		}
		// the last one that may be
		wantWrong(t, put(rowOf(1000), 999, with(f.wrong)), 999, f.code)
	}
	wantWrong(t, make([]api.Metric, 1000), 0, api.ErrName)
}

// P8.1: each of metric's errors, at each place of batches.
func TestTheFirstWrongPlace(t *testing.T) {
	for _, f := range faults() {
		for _, n := range []int{1, 2, 3, 10} {
			for at := range n {
				wantWrong(t, put(rowOf(n), at, with(f.wrong)), at, f.code)
			}
		}
	}
	wantWrong(t, []api.Metric{{}}, 0, api.ErrName)
}

// P8.1: of two that are not right the first one is told, whichever its error.
func TestTheFirstOfTwoIsTold(t *testing.T) {
	for _, f := range faults() {
		for _, g := range faults() {
			for _, at := range [][2]int{{0, 1}, {0, 9}, {1, 2}, {3, 7}, {8, 9}} {
				l := put(put(rowOf(10), at[1], with(g.wrong)), at[0], with(f.wrong))
				wantWrong(t, l, at[0], f.code)
			}
		}
	}
	// of one metric the error that metric.Check tells first
	wantWrong(t, put(rowOf(4), 2, with(time(-1), kind(0), rate(0))), 2, api.ErrKind)
}

// P8.1: values that are not in their one form are Check's error, but Normal brings them there.
func TestNormalOfValues(t *testing.T) {
	ten, form := api.Dec{Coef: 10}, api.Dec{Coef: 1, Exp: 1}
	for _, n := range []int{1, 2, 1000} {
		for _, at := range []int{0, n / 2, n - 1} {
			l := put(rowOf(n), at, with(valued(ten, api.Dec{Neg: true, Exp: 9}, form)))
			wantCheck(t, l, at, api.ErrValue)
			wantNormal(t, l, put(rowOf(n), at, with(valued(form, api.Dec{}, form))))
		}
	}
	// what Check tells first may be nothing to Normal, which tells what stands behind
	l := put(put(rowOf(5), 1, with(valued(ten))), 3, with(kind(0)))
	wantCheck(t, l, 1, api.ErrValue)
	wantNoNormal(t, l, 3, api.ErrKind)
	wantCheck(t, put(rowOf(5), 1, with(valued(ten), rate(0))), 1, api.ErrValue)
	wantNoNormal(t, put(rowOf(5), 1, with(valued(ten), rate(0))), 1, api.ErrRate)
}

// P8.1: tags turned round and told twice are right, and brought in order, each once; the metrics keep theirs.
func TestNormalOfTags(t *testing.T) {
	l := []api.Metric{with(name("z"), tagged(row("b", "", "a", "", "b", "")...)), with(name("a"), tagged(row("c", "2", "c", "1")...)), one(),
		with(name("z"), tagged(slices.Repeat(row("b", "", "a", ""), 16)...))}
	want := []api.Metric{with(name("z"), tagged(row("a", "", "b", "")...)), with(name("a"), tagged(row("c", "1", "c", "2")...)), one(),
		with(name("z"), tagged(row("a", "", "b", "")...))}
	wantCheck(t, l, 0, api.OK)
	wantNormal(t, l, want)
	// the same metric often stays as often as it is told
	wantNormal(t, slices.Repeat(l, 250), slices.Repeat(want, 250))
}

// R2: what is answered shares nothing with what is handed in, nor one metric of it with another; what stands behind is left.
func TestNormalSharesNothing(t *testing.T) {
	l := roomy("c", "a", "b")
	was, wasWhole := kept(l), kept(whole(l))
	first, _, _ := batch.Normal(l)
	second, _, _ := batch.Normal(l)
	scribble(first)
	if !asItStands(whole(l), wasWhole) || !asItStands(second, was) {
		t.Errorf("what is written into a Normal shows: %v, %v", l, second)
	}
	scribble(l)
	if !asItStands(second, was) {
		t.Errorf("what is written into a batch shows in its Normal: %v", second)
	}
}

// R2: metrics that were handed in with the same lists have lists of their own in an answer.
func TestMetricsOfAnAnswerShareNothing(t *testing.T) {
	m := one()
	shared := []api.Metric{m, m, m}
	normal, _, _ := batch.Normal(shared)
	for _, l := range [][]api.Metric{normal, batch.Clone(shared)} {
		for i := range l {
			scribble(l[i : i+1 : i+1])
			for _, rest := range l[i+1:] {
				if !asOneStands(rest, one()) {
					t.Errorf("what is written into the %d. metric shows in another one: %v", i+1, rest)
				}
			}
		}
	}
	if !asOneStands(m, one()) {
		t.Errorf("what is written into an answer shows: %v", m)
	}
}

// P8.2: as they stand, in order.
func TestEqual(t *testing.T) {
	l := named("a", "b", "c")
	wantEqual(t, l, kept(l), true)
	wantEqual(t, l, l[:2], false)
	wantEqual(t, l, l[1:], false)
	wantEqual(t, l, append(kept(l), one()), false)
	wantEqual(t, l, named("a", "c", "b"), false)
	wantEqual(t, l, named("c", "b", "a"), false)
	wantEqual(t, named("a", "a", "b"), named("a", "b", "b"), false)
	wantEqual(t, rowOf(1000), rowOf(1000), true)
	wantEqual(t, rowOf(1000), put(rowOf(1000), 999, one()), false)
	// also those that are not right, or too many
	wantEqual(t, rowOf(3000), rowOf(3000), true)
	wantEqual(t, rowOf(3000), rowOf(2999), false)
	wantEqual(t, make([]api.Metric, 2), make([]api.Metric, 2), true)
	wantEqual(t, make([]api.Metric, 1), nil, false)
}

// P8.2: one metric that differs in one field, at each place.
func TestEqualAsksEachField(t *testing.T) {
	others := []turn{name("other"), kind(api.Hist), rate(250001), time(0), valued(), valued(api.Dec{Coef: 5}),
		valued(api.Dec{Neg: true, Coef: 25, Exp: -1}, api.Dec{Coef: 5}), valued(api.Dec{Coef: 50, Exp: -1}, api.Dec{Neg: true, Coef: 25, Exp: -1}),
		tagged(), tagged(row("a", "")...), tagged(row("b", "x", "a", "")...), tagged(row("a", "", "b", "x", "b", "x")...), tagged(row("a", "", "b", "y")...)}
	for _, f := range faults() {
		others = append(others, f.wrong)
	}
	for _, other := range others {
		for at := range 4 {
			l := slices.Repeat([]api.Metric{one()}, 4)
			wantEqual(t, l, put(l, at, with(other)), false)
			wantEqual(t, put(l, at, with(other)), put(l, at, with(other)), true)
		}
	}
}

// P8.2: a batch of none is as good as nil.
func TestEqualOfNone(t *testing.T) {
	none := [][]api.Metric{nil, {}, make([]api.Metric, 0, 5), rowOf(3)[:0]}
	for _, a := range none {
		for _, b := range none {
			wantEqual(t, a, b, true)
			wantSame(t, a, b, true)
		}
		wantEqual(t, a, named("a"), false)
		wantSame(t, a, named("a"), false)
	}
	bare := func(l []api.Dec, g []api.Tag) []api.Metric {
		return []api.Metric{with(func(m *api.Metric) { m.Values, m.Tags = l, g })}
	}
	wantEqual(t, bare(nil, nil), bare([]api.Dec{}, []api.Tag{}), true)
}

// P8.2: what is nothing to what is the same.
func TestSame(t *testing.T) {
	for _, other := range []turn{
		valued(api.Dec{Coef: 50, Exp: -1}, api.Dec{Neg: true, Coef: 250, Exp: -2}), tagged(row("b", "x", "a", "")...),
		tagged(row("a", "", "b", "x", "a", "")...), tagged(slices.Repeat(row("b", "x", "a", ""), 16)...)} {
		for at := range 4 {
			l := slices.Repeat([]api.Metric{one()}, 4)
			wantSame(t, l, put(l, at, with(other)), true)
			wantEqual(t, l, put(l, at, with(other)), false)
			wantSame(t, put(l, at, with(other)), put(l, 3-at, with(other)), true)
		}
	}
	wantSame(t, rowOf(1000), rowOf(1000), true)
}

// P8.2: what is something to it.
func TestNotSame(t *testing.T) {
	for _, other := range []turn{name("other"), kind(api.Hist), rate(250001), time(0), valued(api.Dec{Coef: 5}),
		valued(api.Dec{Neg: true, Coef: 25, Exp: -1}, api.Dec{Coef: 5}), tagged(), tagged(row("a", "", "b", "y")...)} {
		for at := range 4 {
			l := slices.Repeat([]api.Metric{one()}, 4)
			wantSame(t, l, put(l, at, with(other)), false)
		}
	}
	l := named("a", "b", "c")
	wantSame(t, l, named("a", "c", "b"), false)
	wantSame(t, l, named("c", "b", "a"), false)
	wantSame(t, l, l[:2], false)
	wantSame(t, l, l[1:], false)
	wantSame(t, l, named("a", "b", "c", "c"), false)
	wantSame(t, rowOf(1000), rowOf(999), false)
}

// P8.2: batches that have no Normal are not the same as any one, nor as themselves.
func TestSameOfWrongOnes(t *testing.T) {
	for _, f := range faults() {
		a := put(named("a", "b"), 1, with(f.wrong))
		wantSame(t, a, a, false)
		wantSame(t, a, kept(a), false)
		wantSame(t, a, named("a", "b"), false)
		wantSame(t, a, a[:1], false)
		for _, g := range faults() {
			wantSame(t, a, put(named("a", "b"), 1, with(g.wrong)), false)
		}
	}
	wantSame(t, rowOf(1001), rowOf(1001), false)
	wantSame(t, rowOf(1001), rowOf(1000), false)
	wantSame(t, rowOf(1001), nil, false)
}

// P8.2: a clone is the same, right or not, and shares nothing.
func TestClone(t *testing.T) {
	wantClone(t, nil)
	wantClone(t, []api.Metric{})
	wantClone(t, make([]api.Metric, 0, 9))
	wantClone(t, named("a"))
	wantClone(t, named("b", "a", "b"))
	wantClone(t, roomy("a", "b"))
	wantClone(t, roomy("a", "b")[:1])
	wantClone(t, make([]api.Metric, 3))
	wantClone(t, rowOf(1000))
	wantClone(t, rowOf(2500))
	for _, f := range faults() {
		wantClone(t, put(rowOf(3), 1, with(f.wrong)))
	}
	wantClone(t, []api.Metric{with(valued(api.Dec{Coef: 10}, api.Dec{Coef: 10}), tagged(row("b", "", "a", "", "b", "")...)),
		with(func(m *api.Metric) { m.Values, m.Tags = make([]api.Dec, 0, 9), make([]api.Tag, 0, 9) })})
}

// P8.2: each name once, where it comes first, right or not.
func TestNames(t *testing.T) {
	wantNames(t, nil)
	wantNames(t, []api.Metric{})
	wantNames(t, named("a"), "a")
	wantNames(t, named("c", "a", "b"), "c", "a", "b")
	wantNames(t, named("a", "a"), "a")
	wantNames(t, named("b", "a", "b", "c", "a", "b"), "b", "a", "c")
	wantNames(t, named("a", "A", "a.", "a"), "a", "A", "a.")
	wantNames(t, make([]api.Metric, 3), "")
	wantNames(t, named("b c", "", "a", "", "\xff\x00", "b c", "\xff\x00", "a:1|c"), "b c", "", "a", "\xff\x00", "a:1|c")
	// the rest of a metric is nothing to its name, nor is it how many there are
	wantNames(t, []api.Metric{with(kind(0)), with(valued()), with(name("x"), time(-1)), with(rate(0))}, "a.b", "x")
	wantNames(t, slices.Repeat(named("b", "a"), 2000), "b", "a")
	var want []string
	for i := range 3000 {
		want = append(want, "n"+strconv.Itoa(i))
	}
	wantNames(t, rowOf(3000), want...)
	wantNames(t, slices.Concat(rowOf(3000), rowOf(3000)), want...)
}

// P8.3: a batch behind another one.
func TestBatchesBehindOthers(t *testing.T) {
	a := []api.Metric{with(name("b"), valued(api.Dec{Coef: 10})), with(tagged(row("b", "", "a", "", "b", "")...))}
	normalA := []api.Metric{with(name("b"), valued(api.Dec{Coef: 1, Exp: 1})), with(tagged(row("a", "", "b", "")...))}
	for _, n := range []int{0, 1, 2, 997, 998} {
		wantNormal(t, slices.Concat(a, rowOf(n)), slices.Concat(normalA, rowOf(n)))
		wantNormal(t, slices.Concat(rowOf(n), a), slices.Concat(rowOf(n), normalA))
	}
	wantNoNormal(t, slices.Concat(a, rowOf(999)), 1000, api.ErrLong)
	wantNoNormal(t, slices.Concat(rowOf(999), a), 1000, api.ErrLong)
	wantNoNormal(t, slices.Concat(rowOf(1000), rowOf(1000)), 1000, api.ErrLong)
	for _, f := range faults() {
		wantNoNormal(t, slices.Concat(a, []api.Metric{with(f.wrong)}), 2, f.code)
		wantNoNormal(t, slices.Concat([]api.Metric{with(f.wrong)}, a), 0, f.code)
	}
	wantNames(t, slices.Concat(a, a, rowOf(1)), "b", "a.b", "n0")
}

// someOf is a batch by chance: mostly right, often not in its one form.
func someOf(source *rand.Rand) []api.Metric {
	l := []api.Metric{}
	for range source.Intn(4) {
		m := api.Metric{Name: "ab"[:1+source.Intn(2)], Kind: 1 + source.Intn(2), Rate: api.OneRate}
		for range 1 + source.Intn(2) {
			m.Values = append(m.Values, api.Dec{Neg: source.Intn(4) == 0, Coef: uint64(source.Intn(2) * 10), Exp: source.Intn(2)})
		}
		for range source.Intn(3) {
			m.Tags = append(m.Tags, api.Tag{Key: string("ab"[source.Intn(2)])})
		}
		if source.Intn(20) == 0 {
			f := faults()
			f[source.Intn(len(f))].wrong(&m)
		}
		l = append(l, m)
	}
	return l
}

// formByItsWords is what P8.1 says of Normal, by what metric tells of each.
func formByItsWords(l []api.Metric) ([]api.Metric, int, api.Errno) {
	var forms []api.Metric
	for i := range l {
		form, code := metric.Normal(l[i])
		if code != api.OK {
			return nil, i, code
		}
		forms = append(forms, form)
	}
	return forms, 0, api.OK
}

// wantAll holds what is told of two batches against what the chapter says.
func wantAll(t *testing.T, a, b []api.Metric) bool {
	t.Helper()
	at := slices.IndexFunc(a, func(m api.Metric) bool { return metric.Check(m) != api.OK })
	if at < 0 {
		wantCheck(t, a, 0, api.OK)
	} else {
		wantCheck(t, a, at, metric.Check(a[at]))
	}
	formA, atA, codeA := formByItsWords(a)
	if codeA == api.OK {
		wantNormal(t, a, formA)
	} else {
		wantNoNormal(t, a, atA, codeA)
	}
	formB, atB, codeB := formByItsWords(b)
	switch {
	case codeA != api.OK:
		wantNoNormal(t, slices.Concat(a, b), atA, codeA)
	case codeB != api.OK:
		wantNoNormal(t, slices.Concat(a, b), len(a)+atB, codeB)
	default:
		wantNormal(t, slices.Concat(a, b), slices.Concat(formA, formB))
	}
	same := codeA == api.OK && codeB == api.OK && asItStands(formA, formB)
	wantSame(t, a, b, same)
	wantEqual(t, a, b, asItStands(a, b))
	var names []string
	for _, m := range a {
		if !slices.Contains(names, m.Name) {
			names = append(names, m.Name)
		}
	}
	wantNames(t, a, names...)
	wantClone(t, kept(a))
	return same
}

// P8.1 to P8.3: batches by chance.
func TestByItsWords(t *testing.T) {
	source := rand.New(rand.NewSource(83))
	same := 0
	for range 5000 {
		a, b := someOf(source), someOf(source)
		if source.Intn(3) == 0 {
			b = retold(a)
		}
		if wantAll(t, a, b) && len(a) > 0 {
			same++
		}
	}
	if same < 500 {
		t.Errorf("only %d were the same", same)
	}
}

// retold is the same batch, told another way.
func retold(l []api.Metric) []api.Metric {
	l = kept(l)
	for i := range l {
		for j, d := range l[i].Values {
			l[i].Values[j] = api.Dec{Neg: d.Neg, Coef: d.Coef * 100, Exp: d.Exp - 2}
		}
		slices.Reverse(l[i].Tags)
		l[i].Tags = append(l[i].Tags, l[i].Tags...)
	}
	return l
}

// The chapter's examples.
func TestExamples(t *testing.T) {
	wantNames(t, named("b", "a", "b"), "b", "a")
	wantWrong(t, []api.Metric{one(), with(valued())}, 1, api.ErrValue)
}

// P8.1 to P8.3 at any two batches of two metrics.
func FuzzBatch(f *testing.F) {
	f.Add("a", "b", 1, 2, uint64(10), 0, 1000000, "b", "", "a", "1", 0)
	f.Add("a b", "a", 2, 6, uint64(1), -19, 5, "", "", "a:b", "", -1)
	f.Add("a", "a", 5, 5, uint64(math.MaxUint64), 18, 0, "a", "x", "a", "x", 1<<40)
	f.Fuzz(func(t *testing.T, nameA, nameB string, kindA, kindB int, coef uint64, exp, rate int, keyA, valueA, keyB, valueB string, time int) {
		a := api.Metric{Name: nameA, Kind: kindA, Values: []api.Dec{{Coef: coef, Exp: exp}}, Rate: rate, Tags: row(keyA, valueA, keyB, valueB), Time: time}
		b := api.Metric{Name: nameB, Kind: kindB, Values: []api.Dec{{Neg: true, Coef: coef}}, Rate: api.OneRate, Tags: row(keyB, valueB, keyA, valueA)}
		wantAll(t, []api.Metric{a, b}, []api.Metric{b, a})
		wantAll(t, []api.Metric{a, b, a}, []api.Metric{a, b, a})
	})
}
