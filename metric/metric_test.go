package metric_test

import (
	"math"
	"math/rand"
	"slices"
	"strconv"
	"strings"
	"testing"

	"forebay/api"
	"forebay/metric"
)

const (
	names  = "ABCDEFGHIJKLMNOPQRSTUVWXYZabcdefghijklmnopqrstuvwxyz0123456789_.-"
	keys   = names + "/"
	values = keys + "!\"#$%&'()*+:;<=>?@[\\]^`{}~"
)

// turn is a change of a metric.
type turn func(m *api.Metric)

// one is a metric in its one form.
func one() api.Metric {
	return api.Metric{Name: "a.b-c_9", Kind: api.Timer, Values: numbers(5, 0, -25, -1, 0, 0), Rate: 250000,
		Tags: row("a", "", "a", "1", "b", "x"), Time: 1700000000}
}

// with is that metric, changed.
func with(turns ...turn) api.Metric {
	m := one()
	for _, t := range turns {
		t(&m)
	}
	return m
}

func name(s string) turn            { return func(m *api.Metric) { m.Name = s } }
func kind(n int) turn               { return func(m *api.Metric) { m.Kind = n } }
func rate(n int) turn               { return func(m *api.Metric) { m.Rate = n } }
func time(n int) turn               { return func(m *api.Metric) { m.Time = n } }
func tagged(l ...api.Tag) turn      { return func(m *api.Metric) { m.Tags = slices.Clone(l) } }
func valued(l ...api.Dec) turn      { return func(m *api.Metric) { m.Values = slices.Clone(l) } }
func many(d api.Dec, n int) turn    { return valued(slices.Repeat([]api.Dec{d}, n)...) }
func tagMany(g api.Tag, n int) turn { return tagged(slices.Repeat([]api.Tag{g}, n)...) }

// numbers are values, by coefficients and powers of ten in turn.
func numbers(words ...int) []api.Dec {
	l := []api.Dec{}
	for i := 0; i < len(words); i += 2 {
		size := words[i]
		if size < 0 {
			size = -size
		}
		l = append(l, api.Dec{Neg: words[i] < 0, Coef: uint64(size), Exp: words[i+1]})
	}
	return l
}

// row are tags, by keys and values in turn.
func row(words ...string) []api.Tag {
	l := []api.Tag{}
	for i := 0; i < len(words); i += 2 {
		l = append(l, api.Tag{Key: words[i], Value: words[i+1]})
	}
	return l
}

// rowOf are so many tags, in order, each once.
func rowOf(n int) []api.Tag {
	l := []api.Tag{}
	for i := range n {
		l = append(l, api.Tag{Key: "k", Value: strconv.Itoa(1000 + i)})
	}
	return l
}

func reversed[T any](l []T) []T {
	l = slices.Clone(l)
	slices.Reverse(l)
	return l
}

// kept is a metric of its own, made without the package that is tested.
func kept(m api.Metric) api.Metric {
	m.Values = append([]api.Dec(nil), m.Values...)
	m.Tags = append([]api.Tag(nil), m.Tags...)
	return m
}

// asItStands holds two metrics against each other, without the package that is tested.
func asItStands(a, b api.Metric) bool {
	return a.Name == b.Name && a.Kind == b.Kind && a.Rate == b.Rate && a.Time == b.Time &&
		slices.Equal(a.Values, b.Values) && slices.Equal(a.Tags, b.Tags)
}

func allOf(s, class string) bool {
	for i := range len(s) {
		if strings.IndexByte(class, s[i]) < 0 {
			return false
		}
	}
	return true
}

func isOneForm(d api.Dec) bool {
	if d.Coef == 0 {
		return d == api.Dec{}
	}
	return d.Exp >= -18 && d.Exp <= 18 && (d.Coef%10 != 0 || d.Exp == 18)
}

func isRightTag(g api.Tag) bool {
	return len(g.Key) >= 1 && len(g.Key) <= 64 && len(g.Value) <= 100 && allOf(g.Key, keys) && allOf(g.Value, values)
}

// codeByItsWords is what P7.1 says of Check, with bytes and bounds written out.
func codeByItsWords(m api.Metric) api.Errno {
	switch {
	case len(m.Name) < 1 || len(m.Name) > 200 || !allOf(m.Name, names):
		return api.ErrName
	case m.Kind < 1 || m.Kind > 5:
		return api.ErrKind
	case len(m.Values) < 1 || len(m.Values) > 64 || slices.ContainsFunc(m.Values, func(d api.Dec) bool { return !isOneForm(d) }):
		return api.ErrValue
	case m.Rate < 1 || m.Rate > 1000000 || m.Kind == 2 && m.Rate != 1000000:
		return api.ErrRate
	case len(m.Tags) > 32 || slices.ContainsFunc(m.Tags, func(g api.Tag) bool { return !isRightTag(g) }):
		return api.ErrTag
	case m.Time < 0 || m.Time > 1<<40:
		return api.ErrTime
	}
	return api.OK
}

// wantCheck asks Split and Is as well, which hang on what Check tells.
func wantCheck(t *testing.T, m api.Metric, code api.Errno) {
	t.Helper()
	was := kept(m)
	if got := metric.Check(m); got != code {
		t.Errorf("Check(%v) is %v, not %v", was, got, code)
	}
	l, got := metric.Split(m)
	if got != code || code != api.OK && l != nil {
		t.Errorf("Split(%v) is %v, %v, not %v", was, l, got, code)
	}
	if code != api.OK && metric.Is(m) {
		t.Errorf("Is(%v) holds", was)
	}
	if !asItStands(m, was) {
		t.Errorf("%v became %v", was, m)
	}
}

func wantIs(t *testing.T, m api.Metric, want bool) {
	t.Helper()
	was := kept(m)
	if got := metric.Is(m); got != want {
		t.Errorf("Is(%v) is %v", was, got)
	}
	if !asItStands(m, was) {
		t.Errorf("%v became %v", was, m)
	}
}

// wantNormal asks for P7.5 as well: what Normal tells is in its one form, and its own Normal.
func wantNormal(t *testing.T, m, want api.Metric) {
	t.Helper()
	was := kept(m)
	got, code := metric.Normal(m)
	if code != api.OK || !asItStands(got, want) {
		t.Errorf("Normal(%v) is %v, %v, not %v", was, got, code, want)
		return
	}
	wantIs(t, got, true)
	if again, code := metric.Normal(got); code != api.OK || !asItStands(again, want) {
		t.Errorf("Normal(%v) is %v, %v", want, again, code)
	}
	wantSame(t, m, want, true)
	scribble(got)
	if !asItStands(m, was) {
		t.Errorf("%v became %v", was, m)
	}
}

func wantNoNormal(t *testing.T, m api.Metric, code api.Errno) {
	t.Helper()
	was := kept(m)
	got, gotCode := metric.Normal(m)
	if gotCode != code || !asItStands(got, api.Metric{}) {
		t.Errorf("Normal(%v) is %v, %v, not %v", was, got, gotCode, code)
	}
	wantSame(t, m, kept(m), false)
	wantSame(t, m, one(), false)
	if !asItStands(m, was) {
		t.Errorf("%v became %v", was, m)
	}
}

// wantSame asks both ways round.
func wantSame(t *testing.T, a, b api.Metric, want bool) {
	t.Helper()
	wasA, wasB := kept(a), kept(b)
	if metric.Same(a, b) != want || metric.Same(b, a) != want {
		t.Errorf("Same(%v, %v) is %v, turned round %v", a, b, metric.Same(a, b), metric.Same(b, a))
	}
	if !asItStands(a, wasA) || !asItStands(b, wasB) {
		t.Errorf("%v and %v became %v and %v", wasA, wasB, a, b)
	}
}

// wantEqual asks both ways round.
func wantEqual(t *testing.T, a, b api.Metric, want bool) {
	t.Helper()
	if metric.Equal(a, b) != want || metric.Equal(b, a) != want {
		t.Errorf("Equal(%v, %v) is %v, turned round %v", a, b, metric.Equal(a, b), metric.Equal(b, a))
	}
}

// scribble writes into all memory that a metric has, also behind the lengths of its lists.
func scribble(m api.Metric) {
	l, g := m.Values[:cap(m.Values)], m.Tags[:cap(m.Tags)]
	for i := range l {
		l[i] = api.Dec{Neg: true, Coef: 4711, Exp: -7}
	}
	for i := range g {
		g[i] = api.Tag{Key: "over", Value: "written"}
	}
}

// P7.1: how long a Name may be.
func TestCheckNameLengths(t *testing.T) {
	for _, n := range []int{1, 2, 199, 200} {
		wantCheck(t, with(name(strings.Repeat("n", n))), api.OK)
	}
	for _, n := range []int{0, 201, 202, 5000} {
		wantCheck(t, with(name(strings.Repeat("n", n))), api.ErrName)
	}
	wantCheck(t, with(name(names)), api.OK)
}

// P7.1: each byte, alone, at the start, in the middle and at the end of a Name.
func TestCheckEveryByteOfAName(t *testing.T) {
	for i := range 256 {
		b := string([]byte{byte(i)})
		code := api.ErrName
		if strings.IndexByte(names, byte(i)) >= 0 {
			code = api.OK
		}
		for _, s := range []string{b, b + "xy", "x" + b + "y", "xy" + b, strings.Repeat("x", 199) + b} {
			wantCheck(t, with(name(s)), code)
		}
	}
}

// P7.1: each Kind, and those that are none.
func TestCheckKinds(t *testing.T) {
	for _, n := range []int{api.Counter, api.Gauge, api.Timer, api.Hist, api.Dist} {
		wantCheck(t, with(kind(n), rate(api.OneRate)), api.OK)
	}
	for _, n := range []int{api.Counter - 1, api.Dist + 1, -1, 7, 257, math.MinInt, math.MaxInt} {
		wantCheck(t, with(kind(n), rate(api.OneRate)), api.ErrKind)
		wantNoNormal(t, with(kind(n), rate(api.OneRate)), api.ErrKind)
	}
}

// P7.1: how many Values there may be.
func TestCheckHowManyValues(t *testing.T) {
	for _, n := range []int{1, 2, 63, 64} {
		wantCheck(t, with(many(api.Dec{Coef: 7}, n)), api.OK)
		wantNormal(t, with(many(api.Dec{Coef: 70}, n)), with(many(api.Dec{Coef: 7, Exp: 1}, n)))
	}
	for _, n := range []int{0, 65, 66, 128, 5000} {
		wantCheck(t, with(many(api.Dec{Coef: 7}, n)), api.ErrValue)
		wantNoNormal(t, with(many(api.Dec{Coef: 7}, n)), api.ErrValue)
	}
	wantCheck(t, with(func(m *api.Metric) { m.Values = nil }), api.ErrValue)
	wantCheck(t, with(func(m *api.Metric) { m.Values = []api.Dec{} }), api.ErrValue)
	// values are counted as they stand, however often one of them comes
	wantCheck(t, with(valued(slices.Repeat(numbers(1, 0, 2, 0), 33)...)), api.ErrValue)
}

// P7.1: values that are in their one form, and those that are not, wherever they stand.
func TestCheckFormsOfValues(t *testing.T) {
	for _, d := range []api.Dec{{}, {Coef: 1}, {Neg: true, Coef: 1}, {Coef: 1, Exp: 18}, {Coef: 10, Exp: 18}, {Coef: 1, Exp: -18},
		{Neg: true, Coef: 15, Exp: -1}, {Coef: math.MaxUint64, Exp: 18}, {Coef: math.MaxUint64, Exp: -18}} {
		wantCheck(t, with(valued(d)), api.OK)
		wantCheck(t, with(many(d, 64)), api.OK)
	}
	for _, d := range []api.Dec{{Neg: true}, {Exp: 1}, {Exp: -1}, {Coef: 10}, {Neg: true, Coef: 10}, {Coef: 10, Exp: 17}, {Coef: 10, Exp: -18},
		{Coef: 1, Exp: 19}, {Coef: 1, Exp: -19}, {Coef: 10, Exp: 19}, {Coef: 1, Exp: math.MaxInt}, {Coef: 1, Exp: math.MinInt}} {
		for n := 1; n <= 64; n++ {
			for _, at := range []int{0, n / 2, n - 1} {
				m := with(many(api.Dec{Coef: 7}, n))
				m.Values[at] = d
				wantCheck(t, m, api.ErrValue)
			}
		}
	}
}

// P7.1: the edges of a Rate, of each Kind.
func TestCheckRates(t *testing.T) {
	for n := api.Counter; n <= api.Dist; n++ {
		for _, r := range []int{0, -1, -1000000, 1000001, 2000000, math.MinInt, math.MaxInt} {
			wantCheck(t, with(kind(n), rate(r)), api.ErrRate)
			wantNoNormal(t, with(kind(n), rate(r)), api.ErrRate)
		}
		for _, r := range []int{1, 2, 500000, 999999} {
			code := api.OK
			if n == api.Gauge {
				code = api.ErrRate
			}
			wantCheck(t, with(kind(n), rate(r)), code)
		}
		wantCheck(t, with(kind(n), rate(1000000)), api.OK)
	}
}

// P7.1: how many Tags there may be, in order or not.
func TestCheckHowManyTags(t *testing.T) {
	for _, n := range []int{0, 1, 31, 32} {
		wantCheck(t, with(tagged(rowOf(n)...)), api.OK)
		wantCheck(t, with(tagged(reversed(rowOf(n))...)), api.OK)
		wantCheck(t, with(tagMany(api.Tag{Key: "a"}, n)), api.OK)
	}
	for _, n := range []int{33, 34, 64, 5000} {
		wantCheck(t, with(tagged(rowOf(n)...)), api.ErrTag)
		wantCheck(t, with(tagged(reversed(rowOf(n))...)), api.ErrTag)
		wantCheck(t, with(tagMany(api.Tag{Key: "a"}, n)), api.ErrTag)
	}
	wantCheck(t, with(func(m *api.Metric) { m.Tags = nil }), api.OK)
	wantCheck(t, with(func(m *api.Metric) { m.Tags = []api.Tag{} }), api.OK)
}

// P7.1: tags that are right, and those that are not, wherever they stand.
func TestCheckTags(t *testing.T) {
	for _, g := range row("a", "", "a/b", ":", strings.Repeat("k", 64), strings.Repeat("v", 100)) {
		wantCheck(t, with(tagged(g)), api.OK)
		wantCheck(t, with(tagMany(g, 32)), api.OK)
	}
	for _, g := range row("", "", "", "v", "a:b", "", "a b", "", "a", "b,c", "a", "b|c", "a", " ", strings.Repeat("k", 65), "", "a", strings.Repeat("v", 101)) {
		for n := 1; n <= 32; n++ {
			for _, at := range []int{0, n / 2, n - 1} {
				m := with(tagged(rowOf(n)...))
				m.Tags[at] = g
				wantCheck(t, m, api.ErrTag)
				wantNoNormal(t, m, api.ErrTag)
			}
		}
	}
}

// P7.1: the edges of a Time.
func TestCheckTimes(t *testing.T) {
	for _, n := range []int{0, 1, 1700000000, 1<<40 - 1, 1 << 40} {
		wantCheck(t, with(time(n)), api.OK)
	}
	for _, n := range []int{-1, -2, 1<<40 + 1, 1 << 41, math.MinInt, math.MaxInt} {
		wantCheck(t, with(time(n)), api.ErrTime)
		wantNoNormal(t, with(time(n)), api.ErrTime)
	}
}

// faults are changes, the one whose error is told first standing first.
func faults() ([]turn, []api.Errno) {
	return []turn{name("a b"), kind(6), valued(), rate(0), tagged(api.Tag{}), time(-1)},
		[]api.Errno{api.ErrName, api.ErrKind, api.ErrValue, api.ErrRate, api.ErrTag, api.ErrTime}
}

// P7.1 and P7.2: of each choice of things that are wrong at once the first one is told.
func TestTheFirstErrorIsTold(t *testing.T) {
	turns, codes := faults()
	for choice := range 1 << len(turns) {
		m, code := one(), api.OK
		for i := len(turns) - 1; i >= 0; i-- {
			if choice>>i&1 == 1 {
				turns[i](&m)
				code = codes[i]
			}
		}
		wantCheck(t, m, code)
		if code == api.OK {
			wantNormal(t, m, m)
		} else {
			wantNoNormal(t, m, code)
		}
	}
	wantCheck(t, api.Metric{}, api.ErrName)
	wantNoNormal(t, api.Metric{}, api.ErrName)
	// the kind is told ahead of the rate that a Gauge may not have, the value ahead of it
	wantCheck(t, with(kind(api.Gauge), many(api.Dec{Coef: 10}, 1)), api.ErrValue)
	wantCheck(t, with(kind(api.Gauge), tagged(rowOf(33)...), time(-1)), api.ErrRate)
}

// P7.1: tags in order, turned round, one twice; and what is not right is in no form.
func TestIs(t *testing.T) {
	wantIs(t, one(), true)
	for _, n := range []int{0, 1, 2, 31, 32} {
		wantIs(t, with(tagged(rowOf(n)...)), true)
		wantIs(t, with(tagged(reversed(rowOf(n))...)), n < 2)
	}
	wantIs(t, with(tagged(rowOf(33)...)), false)
	wantIs(t, with(tagMany(api.Tag{Key: "a"}, 1)), true)
	wantIs(t, with(tagMany(api.Tag{Key: "a"}, 2)), false)
	wantIs(t, with(tagged(row("a", "", "b", "", "b", "")...)), false)
	wantIs(t, with(tagged(row("a", "2", "a", "1")...)), false)
	wantIs(t, with(tagged(row("a", "", "c", "", "b", "")...)), false)
	wantIs(t, with(tagged(row("a", "z", "a/", "")...)), true)
	// the order of values is nothing to the form
	wantIs(t, with(valued(numbers(9, 0, 1, 0, 9, 0)...)), true)
	wantIs(t, with(valued(numbers(10, 0)...)), false)
	turns, _ := faults()
	for _, wrong := range turns {
		wantIs(t, with(wrong), false)
	}
}

// P7.2: values that are not in their one form are brought there, in the order in which they stand.
func TestNormalOfValues(t *testing.T) {
	wantNormal(t, one(), one())
	for _, c := range [][2][]api.Dec{
		{numbers(10, 0), numbers(1, 1)},
		{numbers(1000, -3), numbers(1, 0)},
		{numbers(-150, -2), numbers(-15, -1)},
		{numbers(0, 7), numbers(0, 0)},
		{numbers(0, math.MinInt), numbers(0, 0)},
		{{{Neg: true, Exp: math.MaxInt}}, numbers(0, 0)},
		{numbers(10, -19), numbers(1, -18)},
		{numbers(1, 19), numbers(10, 18)},
		{numbers(10, 17), numbers(1, 18)},
		{numbers(3, 0, 20, 0, 1, 0, 20, 0), numbers(3, 0, 2, 1, 1, 0, 2, 1)},
		{numbers(10, 0, 1, 1, 100, -1), numbers(1, 1, 1, 1, 1, 1)},
	} {
		wantNormal(t, with(valued(c[0]...)), with(valued(c[1]...)))
	}
}

// P7.2: a value that has no form, wherever it stands.
func TestNormalOfValuesWithoutForm(t *testing.T) {
	for _, d := range []api.Dec{{Coef: 1, Exp: -19}, {Coef: 11, Exp: -19}, {Coef: 1, Exp: 38}, {Coef: math.MaxUint64, Exp: 19},
		{Coef: 1, Exp: math.MaxInt}, {Neg: true, Coef: 1, Exp: math.MinInt}} {
		for n := 1; n <= 64; n++ {
			for _, at := range []int{0, n / 2, n - 1} {
				m := with(many(api.Dec{Coef: 70}, n))
				m.Values[at] = d
				wantNoNormal(t, m, api.ErrValue)
			}
		}
		// what is told ahead of it, and what is not
		wantNoNormal(t, with(valued(d), kind(0)), api.ErrKind)
		wantNoNormal(t, with(valued(d), name("")), api.ErrName)
		wantNoNormal(t, with(valued(d), rate(0), tagged(api.Tag{}), time(-1)), api.ErrValue)
	}
	// a value that only has another form is not told: what stands behind it is
	wantNoNormal(t, with(valued(numbers(10, 0)...), rate(0)), api.ErrRate)
	wantNoNormal(t, with(valued(numbers(10, 0)...), tagged(api.Tag{})), api.ErrTag)
	wantNoNormal(t, with(valued(numbers(10, 0)...), time(-1)), api.ErrTime)
	wantNoNormal(t, with(many(api.Dec{Coef: 10}, 65)), api.ErrValue)
}

// P7.2: tags turned round, told twice, and too many of them.
func TestNormalOfTags(t *testing.T) {
	for _, n := range []int{0, 1, 2, 31, 32} {
		wantNormal(t, with(tagged(rowOf(n)...)), with(tagged(rowOf(n)...)))
		wantNormal(t, with(tagged(reversed(rowOf(n))...)), with(tagged(rowOf(n)...)))
	}
	wantNormal(t, with(tagged(row("b", "", "a", "", "b", "")...)), with(tagged(row("a", "", "b", "")...)))
	wantNormal(t, with(tagged(row("a", "2", "a", "10", "a", "", "a", "2")...)), with(tagged(row("a", "", "a", "10", "a", "2")...)))
	wantNormal(t, with(tagMany(api.Tag{Key: "a"}, 32)), with(tagMany(api.Tag{Key: "a"}, 1)))
	wantNormal(t, with(tagged(slices.Concat(rowOf(16), reversed(rowOf(16)))...)), with(tagged(rowOf(16)...)))
	// they are counted as they stand: one that is told twice counts twice
	wantNoNormal(t, with(tagged(rowOf(33)...)), api.ErrTag)
	wantNoNormal(t, with(tagged(reversed(rowOf(33))...)), api.ErrTag)
	wantNoNormal(t, with(tagged(append(rowOf(32), rowOf(1)...)...)), api.ErrTag)
	wantNoNormal(t, with(tagMany(api.Tag{Key: "a"}, 33)), api.ErrTag)
}

// P7.2: the name, kind, rate and time are the same.
func TestNormalLeavesTheRest(t *testing.T) {
	for n := api.Counter; n <= api.Dist; n++ {
		for _, at := range []int{0, 5, 1 << 40} {
			m := with(name(strings.Repeat("n", n)), kind(n), rate(api.OneRate), time(at), valued(numbers(10, 0)...), tagged(row("b", "", "a", "")...))
			want := kept(m)
			want.Values, want.Tags = numbers(1, 1), row("a", "", "b", "")
			wantNormal(t, m, want)
		}
	}
	m := with(name("Z"), rate(1))
	wantNormal(t, m, m)
}

// P7.2 and P7.5: what is nothing to what is the same, and what is something.
func TestSame(t *testing.T) {
	m := with(tagged(row("a", "", "b", "")...), valued(numbers(1, 1, 2, 0)...))
	wantSame(t, m, m, true)
	for _, other := range []turn{
		tagged(row("b", "", "a", "")...), tagged(row("a", "", "b", "", "a", "")...), tagged(slices.Repeat(row("b", "", "a", ""), 16)...),
		valued(numbers(10, 0, 2, 0)...), valued(numbers(100, -1, 20, -1)...),
	} {
		n := kept(m)
		other(&n)
		wantSame(t, m, n, true)
	}
	for _, other := range []turn{
		name("other"), kind(api.Hist), rate(250001), time(0),
		valued(numbers(2, 0, 1, 1)...), valued(numbers(1, 1)...), valued(numbers(1, 1, 2, 0, 2, 0)...), valued(numbers(1, 1, 1, 1, 2, 0)...),
		valued(numbers(1, 1, -2, 0)...), valued(numbers(1, 0, 2, 0)...), valued(numbers(1, 1, 2, 1)...),
		tagged(), tagged(row("a", "")...), tagged(row("a", "", "b", "", "c", "")...), tagged(row("a", "", "b", "1")...), tagged(row("a", "", "B", "")...),
	} {
		n := kept(m)
		other(&n)
		wantSame(t, m, n, false)
	}
}

// P7.2: a metric that has no Normal is not the same as any one, nor as itself.
func TestSameOfWrongOnes(t *testing.T) {
	turns, _ := faults()
	turns = append(turns, valued(numbers(1, 38)...), tagged(rowOf(33)...), many(api.Dec{}, 65))
	for _, a := range turns {
		wantSame(t, with(a), with(a), false)
		wantSame(t, with(a), one(), false)
		wantSame(t, with(a), api.Metric{}, false)
		for _, b := range turns {
			wantSame(t, with(a), with(b), false)
		}
	}
	wantSame(t, api.Metric{}, api.Metric{}, false)
	// 33 tags, of which one is told twice, have no Normal, though 32 of them have
	wantSame(t, with(tagged(rowOf(32)...)), with(tagged(append(rowOf(32), rowOf(1)...)...)), false)
}

// P7.3: each field alone that differs, and lists as they stand.
func TestEqual(t *testing.T) {
	wantEqual(t, one(), one(), true)
	wantEqual(t, api.Metric{}, api.Metric{}, true)
	for _, other := range []turn{
		name(""), name("a.b-c_"), name("a.b-c_90"), name("A.b-c_9"), kind(0), kind(api.Counter), rate(0), rate(250001), rate(-250000),
		time(0), time(-1700000000), time(1700000001),
		valued(), valued(numbers(5, 0, -25, -1)...), valued(numbers(5, 0, -25, -1, 0, 0, 0, 0)...), valued(numbers(-25, -1, 5, 0, 0, 0)...),
		valued(numbers(5, 0, 25, -1, 0, 0)...), valued(numbers(5, 0, -26, -1, 0, 0)...), valued(numbers(5, 0, -25, -2, 0, 0)...),
		valued(numbers(50, -1, -25, -1, 0, 0)...), valued(numbers(5, 0, -25, -1, 0, 1)...),
		tagged(), tagged(row("a", "", "a", "1")...), tagged(row("a", "", "a", "1", "b", "x", "b", "x")...), tagged(row("a", "1", "a", "", "b", "x")...),
		tagged(row("a", "", "a", "1", "b", "y")...), tagged(row("a", "", "a", "1", "c", "x")...), tagged(row("A", "", "a", "1", "b", "x")...),
	} {
		wantEqual(t, one(), with(other), false)
		wantEqual(t, with(other), with(other), true)
	}
}

// P7.3: a list without elements is as good as nil; what is not right is compared all the same.
func TestEqualOfEmptyLists(t *testing.T) {
	bare := func(l []api.Dec, g []api.Tag) api.Metric {
		return with(func(m *api.Metric) { m.Values, m.Tags = l, g })
	}
	for _, l := range [][]api.Dec{nil, {}, make([]api.Dec, 0, 5)} {
		for _, g := range [][]api.Tag{nil, {}, make([]api.Tag, 0, 5)} {
			wantEqual(t, bare(nil, nil), bare(l, g), true)
			wantEqual(t, bare([]api.Dec{}, []api.Tag{}), bare(l, g), true)
			wantEqual(t, one(), bare(l, g), false)
			wantEqual(t, bare(l, g), bare([]api.Dec{{}}, g), false)
			wantEqual(t, bare(l, g), bare(l, []api.Tag{{}}), false)
		}
	}
	wantEqual(t, with(name("a b"), kind(9), rate(-1), time(-1)), with(name("a b"), kind(9), rate(-1), time(-1)), true)
	wantEqual(t, with(many(api.Dec{Coef: 10}, 500), tagMany(api.Tag{}, 500)), with(many(api.Dec{Coef: 10}, 500), tagMany(api.Tag{}, 500)), true)
	// the same, but not as they stand
	wantEqual(t, with(valued(numbers(10, 0)...)), with(valued(numbers(1, 1)...)), false)
}

// roomy is a metric whose lists have more memory behind their lengths.
func roomy() api.Metric {
	m := one()
	m.Values = append(make([]api.Dec, 0, 20), m.Values...)
	m.Tags = append(make([]api.Tag, 0, 20), m.Tags...)
	return m
}

// wantClone writes into the clone, and into what it is of.
func wantClone(t *testing.T, m api.Metric) {
	t.Helper()
	was := kept(m)
	// lists whole, up to what stands behind their lengths
	whole := m
	whole.Values, whole.Tags = m.Values[:cap(m.Values)], m.Tags[:cap(m.Tags)]
	wasWhole := kept(whole)
	first, second := metric.Clone(m), metric.Clone(m)
	if !asItStands(first, was) || !asItStands(second, was) || !asItStands(whole, wasWhole) {
		t.Errorf("Clone(%v) is %v, and %v", was, first, second)
	}
	scribble(first)
	if !asItStands(whole, wasWhole) || !asItStands(second, was) {
		t.Errorf("what is written into a Clone of %v shows", was)
	}
	scribble(m)
	if !asItStands(second, was) {
		t.Errorf("what is written into %v shows in its Clone", was)
	}
}

// P7.3: a clone is the same, right or not, and shares nothing.
func TestClone(t *testing.T) {
	wantClone(t, one())
	wantClone(t, roomy())
	wantClone(t, api.Metric{})
	wantClone(t, with(valued(), tagged()))
	wantClone(t, with(func(m *api.Metric) { m.Values, m.Tags = make([]api.Dec, 0, 9), make([]api.Tag, 0, 9) }))
	wantClone(t, with(name("a b"), kind(-1), rate(-1), time(-1), valued(numbers(10, 0, 1, 99)...), tagged(row("b", "", "", "", "b", "")...)))
	wantClone(t, with(many(api.Dec{Coef: 10}, 500), tagMany(api.Tag{Key: "a"}, 500)))
}

// wantSplit holds each metric against what P7.4 says, and writes into each in its turn.
func wantSplit(t *testing.T, m api.Metric) {
	t.Helper()
	was := kept(m)
	l, code := metric.Split(m)
	if code != api.OK || len(l) != len(was.Values) {
		t.Errorf("Split(%v) is %v, %v", was, l, code)
		return
	}
	want := make([]api.Metric, len(l))
	for i := range l {
		want[i] = kept(was)
		want[i].Values = []api.Dec{was.Values[i]}
	}
	if !slices.EqualFunc(l, want, asItStands) {
		t.Errorf("Split(%v) is %v", was, l)
	}
	for i := range l {
		scribble(l[i])
		if !asItStands(m, was) || !slices.EqualFunc(l[i+1:], want[i+1:], asItStands) {
			t.Errorf("what is written into the %d. of Split(%v) shows", i+1, was)
		}
	}
	l, _ = metric.Split(m)
	scribble(m)
	if !slices.EqualFunc(l, want, asItStands) {
		t.Errorf("what is written into %v shows in its Split", was)
	}
}

// P7.4: one value, many, the same one often; tags as they stand.
func TestSplit(t *testing.T) {
	wantSplit(t, one())
	wantSplit(t, roomy())
	wantSplit(t, with(valued(numbers(7, 0)...)))
	wantSplit(t, with(valued(numbers(7, 0, 7, 0, 1, 0, 7, 0)...)))
	wantSplit(t, with(many(api.Dec{Coef: 7}, 64), tagged(rowOf(32)...)))
	wantSplit(t, with(tagged(row("b", "", "a", "", "b", "")...)))
	wantSplit(t, with(tagged()))
	wantSplit(t, with(kind(api.Gauge), rate(api.OneRate), time(0), func(m *api.Metric) { m.Tags = nil }))
	var l []api.Dec
	for i := range 64 {
		l = append(l, api.Dec{Coef: uint64(64-i)*10 + 1})
	}
	wantSplit(t, with(valued(l...)))
}

// P7.4: a metric that is not right is Check's error, also if it has a Normal.
func TestSplitOfWrongOnes(t *testing.T) {
	turns, codes := faults()
	for i := range turns {
		if l, code := metric.Split(with(turns[i])); code != codes[i] || l != nil {
			t.Errorf("Split: %v, %v, not %v", l, code, codes[i])
		}
	}
	if l, code := metric.Split(with(valued(numbers(1, 0, 10, 0)...))); code != api.ErrValue || l != nil {
		t.Errorf("Split: %v, %v", l, code)
	}
}

// R2: what is answered shares nothing with what is handed in, nor with another answer; what stands behind is left.
func TestNormalSharesNothing(t *testing.T) {
	m := roomy()
	whole := m
	whole.Values, whole.Tags = m.Values[:cap(m.Values)], m.Tags[:cap(m.Tags)]
	wasWhole := kept(whole)
	first, _ := metric.Normal(m)
	second, _ := metric.Normal(m)
	scribble(first)
	if !asItStands(whole, wasWhole) || !asItStands(second, one()) {
		t.Errorf("what is written into a Normal shows: %v, %v", whole, second)
	}
	scribble(m)
	if !asItStands(second, one()) {
		t.Errorf("what is written into a metric shows in its Normal: %v", second)
	}
}

// someOf is a metric by chance: mostly right, often not in its one form.
func someOf(source *rand.Rand) api.Metric {
	m := api.Metric{Name: "n", Kind: 1 + source.Intn(5), Rate: api.OneRate, Time: source.Intn(2)}
	for range 1 + source.Intn(3) {
		m.Values = append(m.Values, api.Dec{Neg: source.Intn(2) == 0, Coef: uint64(source.Intn(3) * 10), Exp: source.Intn(3)})
	}
	for range source.Intn(5) {
		m.Tags = append(m.Tags, api.Tag{Key: string("ab"[source.Intn(2)]), Value: strings.Repeat("v", source.Intn(2))})
	}
	if source.Intn(20) == 0 {
		turns, _ := faults()
		turns[source.Intn(len(turns))](&m)
	}
	return m
}

// formByItsWords is a right metric's one form, or that of one whose values have other forms, worked out another way.
func formByItsWords(m api.Metric) api.Metric {
	m = kept(m)
	for i, d := range m.Values {
		for d.Coef != 0 && d.Coef%10 == 0 && d.Exp < 18 {
			d = api.Dec{Neg: d.Neg, Coef: d.Coef / 10, Exp: d.Exp + 1}
		}
		if d.Coef == 0 {
			d = api.Dec{}
		}
		m.Values[i] = d
	}
	var l []api.Tag
	for _, g := range m.Tags {
		at := 0
		for at < len(l) && (l[at].Key < g.Key || l[at].Key == g.Key && l[at].Value < g.Value) {
			at++
		}
		if at == len(l) || l[at] != g {
			l = slices.Insert(l, at, g)
		}
	}
	m.Tags = l
	return m
}

// P7.5: metrics by chance: their Normals, and whether two of them are the same, just if their forms are.
func TestNormalByItsWords(t *testing.T) {
	source := rand.New(rand.NewSource(75))
	same := 0
	for range 20000 {
		a, b := someOf(source), someOf(source)
		if source.Intn(4) == 0 {
			b = retold(source, a)
		}
		formA, formB := formByItsWords(a), formByItsWords(b)
		codeA, codeB := codeByItsWords(formA), codeByItsWords(formB)
		if codeA == api.OK {
			wantNormal(t, a, formA)
		} else {
			wantNoNormal(t, a, codeA)
		}
		wantCheck(t, a, codeByItsWords(a))
		wantIs(t, a, codeA == api.OK && asItStands(a, formA))
		want := codeA == api.OK && codeB == api.OK && asItStands(formA, formB)
		wantSame(t, a, b, want)
		if want {
			same++
		}
	}
	if same < 1000 {
		t.Errorf("only %d were the same", same)
	}
}

// retold is the same metric, told another way.
func retold(source *rand.Rand, m api.Metric) api.Metric {
	m = kept(m)
	for i, d := range m.Values {
		if d.Coef < 1000 {
			m.Values[i] = api.Dec{Neg: d.Neg, Coef: d.Coef * 100, Exp: d.Exp - 2}
		}
	}
	if len(m.Tags) > 0 {
		m.Tags = append(m.Tags, m.Tags[source.Intn(len(m.Tags))])
	}
	source.Shuffle(len(m.Tags), func(i, j int) { m.Tags[i], m.Tags[j] = m.Tags[j], m.Tags[i] })
	return m
}

// The chapter's examples.
func TestExamples(t *testing.T) {
	m := api.Metric{Name: "a", Kind: api.Counter, Values: []api.Dec{{Coef: 10}}, Rate: api.OneRate}
	wantCheck(t, m, api.ErrValue)
	want := kept(m)
	want.Values = []api.Dec{{Coef: 1, Exp: 1}}
	wantNormal(t, m, want)
	m.Tags = row("b", "", "a", "", "b", "")
	want.Tags = row("a", "", "b", "")
	wantNormal(t, m, want)
}

// P7.1 to P7.5 at any metric of two values and two tags.
func FuzzMetric(f *testing.F) {
	f.Add("a", 1, false, uint64(10), 0, true, uint64(0), 5, 1000000, "b", "", "a", "1", 0)
	f.Add("a b", 2, false, uint64(1), -19, false, uint64(1), 38, 5, "", "", "a:b", "", -1)
	f.Add("", 0, true, uint64(math.MaxUint64), 18, false, uint64(100), 17, 0, "a", "x", "a", "x", 1<<40)
	f.Fuzz(func(t *testing.T, name string, kind int, negA bool, coefA uint64, expA int, negB bool, coefB uint64, expB int, rate int,
		keyA, valueA, keyB, valueB string, time int) {
		m := api.Metric{Name: name, Kind: kind, Rate: rate, Time: time, Tags: row(keyA, valueA, keyB, valueB),
			Values: []api.Dec{{Neg: negA, Coef: coefA, Exp: expA}, {Neg: negB, Coef: coefB, Exp: expB}}}
		code := codeByItsWords(m)
		wantCheck(t, m, code)
		if code == api.OK {
			wantNormal(t, m, formByItsWords(m))
			wantSplit(t, kept(m))
		}
		wantEqual(t, m, kept(m), true)
		wantClone(t, kept(m))
	})
}
