package dog_test

import (
	"math"
	"math/rand"
	"slices"
	"strconv"
	"strings"
	"testing"

	"forebay/api"
	"forebay/dec"
	"forebay/dog"
	"forebay/metric"
	"forebay/num"
	"forebay/tag"
)

const (
	nameBytes  = "ABCDEFGHIJKLMNOPQRSTUVWXYZabcdefghijklmnopqrstuvwxyz0123456789_.-"
	valueBytes = "!\"#$%&'()*+-./0123456789:;<=>?@ABCDEFGHIJKLMNOPQRSTUVWXYZ[\\]^_`abcdefghijklmnopqrstuvwxyz{}~"
)

// kinds are all that there are.
func kinds() []int { return []int{api.Counter, api.Gauge, api.Timer, api.Hist, api.Dist} }

// words are what the chapter says of them, each at its kind less one.
func words() []string { return []string{"c", "g", "ms", "h", "d"} }

// counter is a Counter a of one value, changed.
func counter(turn func(m *api.Metric)) api.Metric {
	m := api.Metric{Name: "a", Kind: api.Counter, Values: []api.Dec{{Coef: 1}}, Rate: 1000000}
	turn(&m)
	return m
}

// kept is a metric of its own, made without the packages that are tested.
func kept(m api.Metric) api.Metric {
	m.Values = append([]api.Dec(nil), m.Values...)
	m.Tags = append([]api.Tag(nil), m.Tags...)
	return m
}

// same holds two metrics against each other, as they stand, without the packages that are tested.
func same(a, b api.Metric) bool {
	return a.Name == b.Name && a.Kind == b.Kind && a.Rate == b.Rate && a.Time == b.Time &&
		slices.Equal(a.Values, b.Values) && slices.Equal(a.Tags, b.Tags)
}

// scribble writes into all memory that a metric has, also behind the lengths of its lists.
func scribble(m api.Metric) {
	for i := range m.Values[:cap(m.Values)] {
		m.Values[:cap(m.Values)][i] = api.Dec{Neg: true, Coef: 4711, Exp: -7}
	}
	for i := range m.Tags[:cap(m.Tags)] {
		m.Tags[:cap(m.Tags)][i] = api.Tag{Key: "over", Value: "written"}
	}
}

// manyTags are tags in order, each once, and their text.
func manyTags(n int) ([]api.Tag, string) {
	l, texts := []api.Tag{}, []string{}
	for i := range n {
		key := "k" + strconv.Itoa(1000+i)
		l = append(l, api.Tag{Key: key, Value: "v"})
		texts = append(texts, key+":v")
	}
	return l, strings.Join(texts, ",")
}

// manyValues are values, and their texts with what stands ahead of each.
func manyValues(n int) ([]api.Dec, string) {
	l, text := []api.Dec{}, ""
	for i := range n {
		l = append(l, dec.Of(-i))
		text += ":" + strconv.Itoa(-i)
	}
	return l, text
}

// parseByItsWords works out what P11.2 says, with what it calls for of the layers below.
func parseByItsWords(s string) (api.Metric, api.Fault) {
	wrong := func(code api.Errno, at int) (api.Metric, api.Fault) {
		return api.Metric{}, api.Fault{Code: code, At: at}
	}
	if len(s) > 8192 {
		return wrong(api.ErrLong, 0)
	}
	// places of all bars, and of the end
	ends := []int{}
	for i := range len(s) {
		if s[i] == '|' {
			ends = append(ends, i)
		}
	}
	ends = append(ends, len(s))
	first := s[:ends[0]]
	colon := strings.IndexByte(first, ':')
	name := first
	if colon >= 0 {
		name = first[:colon]
	}
	if len(name) < 1 || len(name) > 200 || strings.ContainsFunc(name, func(r rune) bool { return !strings.ContainsRune(nameBytes, r) }) {
		return wrong(api.ErrName, 0)
	}
	if colon < 0 {
		return wrong(api.ErrForm, ends[0])
	}
	m := api.Metric{Name: name, Rate: 1000000}
	from := colon + 1
	for i := from; i <= len(first); i++ {
		if i < len(first) && first[i] != ':' {
			continue
		}
		d, f := dec.Parse(first[from:i])
		if f != (api.Fault{}) || len(m.Values) == 64 {
			return wrong(api.ErrValue, from)
		}
		m.Values = append(m.Values, d)
		from = i + 1
	}
	if len(ends) == 1 {
		return wrong(api.ErrForm, len(s))
	}
	m.Kind = slices.Index(words(), s[ends[0]+1:ends[1]]) + 1
	if m.Kind == 0 {
		return wrong(api.ErrKind, ends[0]+1)
	}
	last := -1
	for i := 2; i < len(ends); i++ {
		at := ends[i-1] + 1
		piece := s[at:ends[i]]
		mark := -1
		if piece != "" {
			mark = strings.IndexByte("@#T", piece[0])
		}
		if mark <= last {
			return wrong(api.ErrForm, at)
		}
		last = mark
		switch n, f := num.Rate(piece[1:]); mark {
		case 0:
			if f != (api.Fault{}) || m.Kind == 2 && n != 1000000 {
				return wrong(api.ErrRate, at)
			}
			m.Rate = n
		case 1:
			l, f := tag.Parse(piece[1:])
			if f != (api.Fault{}) || len(l) > 32 {
				return wrong(api.ErrTag, at)
			}
			m.Tags = tag.Normal(l)
		case 2:
			n, f := num.Time(piece[1:])
			if f != (api.Fault{}) {
				return wrong(api.ErrTime, at)
			}
			m.Time = n
		}
	}
	return m, api.Fault{}
}

func wantWord(t *testing.T, kind int, word string, code api.Errno) {
	t.Helper()
	if got, gotCode := dog.Word(kind); got != word || gotCode != code {
		t.Errorf("Word(%d) is %q, %v, not %q, %v", kind, got, gotCode, word, code)
	}
}

func wantKind(t *testing.T, s string, kind int, code api.Errno) {
	t.Helper()
	if got, gotCode := dog.Kind(s); got != kind || gotCode != code {
		t.Errorf("Kind(%q) is %d, %v, not %d, %v", s, got, gotCode, kind, code)
	}
}

func wantNoLine(t *testing.T, m api.Metric, code api.Errno) {
	t.Helper()
	was := kept(m)
	if s, got := dog.Line(m); s != "" || got != code {
		t.Errorf("Line(%v) is %q, %v, not %v", was, s, got, code)
	}
	if !same(m, was) {
		t.Errorf("%v became %v", was, m)
	}
}

// wantLine asks for P11.3 as well: the line is parsed as the metric's Normal.
func wantLine(t *testing.T, m api.Metric, line string) {
	t.Helper()
	was := kept(m)
	if s, code := dog.Line(m); s != line || code != api.OK {
		t.Errorf("Line(%v) is %q, %v, not %q", was, s, code, line)
	}
	if !same(m, was) {
		t.Errorf("%v became %v", was, m)
	}
	n, code := metric.Normal(was)
	if code != api.OK {
		t.Errorf("Normal(%v) is %v", was, code)
	}
	wantParse(t, line, n)
}

// wantParse asks for P11.3 as well: what is parsed is in its one form, and its line is parsed as the same, and no longer
// than it may be. It writes into what is parsed, too: the next answer has memory of its own.
func wantParse(t *testing.T, s string, want api.Metric) {
	t.Helper()
	for range 2 {
		m, f := dog.Parse(s)
		if f != (api.Fault{}) || !same(m, want) {
			t.Errorf("Parse(%q) is %v, %v, not %v", s, m, f, want)
			return
		}
		if !metric.Is(m) {
			t.Errorf("Parse(%q) is %v: not in its one form", s, m)
		}
		line, code := dog.Line(m)
		again, f := dog.Parse(line)
		if code != api.OK || f != (api.Fault{}) || !same(again, m) || len(line) > 8192 || len(line) > len(s) {
			t.Errorf("Parse(%q) is %v, whose line %q (%v) is %v, %v", s, m, line, code, again, f)
		}
		scribble(m)
		if !same(again, want) {
			t.Errorf("what is written into what %q is parsed as shows: %v", s, again)
		}
	}
}

func wantFault(t *testing.T, s string, code api.Errno, at int) {
	t.Helper()
	if m, f := dog.Parse(s); f != (api.Fault{Code: code, At: at}) || !same(m, api.Metric{}) {
		t.Errorf("Parse(%q) is %v, %v, not %v at %d", s, m, f, code, at)
	}
}

// wantByItsWords asks for what the promise's words say.
func wantByItsWords(t *testing.T, s string) {
	t.Helper()
	if m, f := parseByItsWords(s); f == (api.Fault{}) {
		wantParse(t, s, m)
	} else {
		wantFault(t, s, f.Code, f.At)
	}
}

// texts hands on each text of at most so many bytes of an alphabet.
func texts(alphabet string, most int, each func(s string)) {
	each("")
	if most == 0 {
		return
	}
	for i := range len(alphabet) {
		texts(alphabet, most-1, func(s string) { each(alphabet[i:i+1] + s) })
	}
}

// P11.1: each kind's word, and none of numbers that are no kind.
func TestWord(t *testing.T) {
	wantWord(t, api.Counter, "c", api.OK)
	wantWord(t, api.Gauge, "g", api.OK)
	wantWord(t, api.Timer, "ms", api.OK)
	wantWord(t, api.Hist, "h", api.OK)
	wantWord(t, api.Dist, "d", api.OK)
	for _, kind := range []int{0, -1, -2, -4, 6, 7, 255, 256, 257, 1<<16 + 1, 1<<32 + 1, -(1 << 32) + 2, math.MinInt, math.MinInt + 1, math.MaxInt} {
		wantWord(t, kind, "", api.ErrKind)
	}
}

// P11.1: each word's kind, and none of a text that is no word.
func TestKind(t *testing.T) {
	for i, word := range words() {
		wantKind(t, word, kinds()[i], api.OK)
		wantKind(t, strings.ToUpper(word), 0, api.ErrKind)
		for i := range 256 {
			b := string([]byte{byte(i)})
			wantKind(t, word+b, 0, api.ErrKind)
			wantKind(t, b+word, 0, api.ErrKind)
		}
		wantKind(t, word+word, 0, api.ErrKind)
	}
	for _, s := range []string{"", "m", "s", "Ms", "mS", "sm", "C", "D", "cg", "counter", "\x00", " ", "1", "\u0441", strings.Repeat("c", 1000)} {
		wantKind(t, s, 0, api.ErrKind)
	}
}

// P11.1: of all short texts just the words have a kind.
func TestKindOfShortTexts(t *testing.T) {
	all := make([]byte, 256)
	for i := range all {
		all[i] = byte(i)
	}
	texts(string(all), 2, func(s string) {
		kind, code := dog.Kind(s)
		want := slices.Index(words(), s) + 1
		if kind != want || (code == api.OK) != (want != 0) || want == 0 && code != api.ErrKind {
			t.Errorf("Kind(%q) is %d, %v", s, kind, code)
		}
	})
}

// P11.1: each part that a line may have or not, with each kind.
func TestLine(t *testing.T) {
	for i, kind := range kinds() {
		for _, values := range []struct {
			l    []api.Dec
			text string
		}{
			{[]api.Dec{{}}, ":0"}, {[]api.Dec{{Neg: true, Coef: 15, Exp: -1}}, ":-1.5"}, {[]api.Dec{{Coef: 3, Exp: 18}, {Coef: 3}, {Coef: 3}}, ":3000000000000000000:3:3"},
		} {
			for _, rate := range []struct {
				n    int
				text string
			}{{1000000, ""}, {1, "|@0.000001"}, {999999, "|@0.999999"}, {500000, "|@0.5"}} {
				for _, tags := range []struct {
					l    []api.Tag
					text string
				}{{nil, ""}, {[]api.Tag{}, ""}, {[]api.Tag{{Key: "k"}}, "|#k"}, {[]api.Tag{{Key: "a", Value: "#@:1"}, {Key: "b"}}, "|#a:#@:1,b"}} {
					for _, time := range []struct {
						n    int
						text string
					}{{0, ""}, {1, "|T1"}, {1700000000, "|T1700000000"}, {1 << 40, "|T1099511627776"}} {
						if kind == api.Gauge && rate.n != 1000000 {
							continue
						}
						m := api.Metric{Name: "a.b-c_9", Kind: kind, Values: values.l, Rate: rate.n, Tags: tags.l, Time: time.n}
						wantLine(t, m, "a.b-c_9"+values.text+"|"+words()[i]+rate.text+tags.text+time.text)
					}
				}
			}
		}
	}
}

// P11.1: metrics that are not in their one form have the line of their Normal.
func TestLineOfNormal(t *testing.T) {
	wantLine(t, counter(func(m *api.Metric) {
		m.Values = []api.Dec{{Coef: 10}, {Neg: true}, {Exp: 99}, {Coef: 1500, Exp: -3}, {Coef: 1, Exp: 19}}
	}), "a:10:0:0:1.5:10000000000000000000|c")
	wantLine(t, counter(func(m *api.Metric) {
		m.Tags = []api.Tag{{Key: "b"}, {Key: "a", Value: "2"}, {Key: "b"}, {Key: "a", Value: "1"}}
	}), "a:1|c|#a:1,a:2,b")
	wantLine(t, counter(func(m *api.Metric) { m.Tags = slices.Repeat([]api.Tag{{Key: "b"}}, 32) }), "a:1|c|#b")
	// by the key alone a- is behind a; in the text it stands ahead of a:1
	wantLine(t, counter(func(m *api.Metric) { m.Tags = []api.Tag{{Key: "a-"}, {Key: "a", Value: "1"}} }), "a:1|c|#a:1,a-")
}

// P11.1: one value, 64, and tags up to 32.
func TestLineOfMany(t *testing.T) {
	for _, n := range []int{1, 2, 63, 64} {
		l, text := manyValues(n)
		wantLine(t, counter(func(m *api.Metric) { m.Values = l }), "a"+text+"|c")
	}
	for _, n := range []int{1, 2, 31, 32} {
		l, text := manyTags(n)
		wantLine(t, counter(func(m *api.Metric) { m.Tags = l }), "a:1|c|#"+text)
		backwards := slices.Clone(l)
		slices.Reverse(backwards)
		wantLine(t, counter(func(m *api.Metric) { m.Tags = backwards }), "a:1|c|#"+text)
	}
	long := strings.Repeat("n", 200)
	wantLine(t, counter(func(m *api.Metric) { m.Name = long }), long+":1|c")
	wantLine(t, counter(func(m *api.Metric) { m.Name = nameBytes }), nameBytes+":1|c")
	wantLine(t, counter(func(m *api.Metric) { m.Tags = []api.Tag{{Key: "/k", Value: valueBytes}} }), "a:1|c|#/k:"+valueBytes)
}

// P11.1: lists with room behind their lengths stay as they are.
func TestLineOfListsWithRoom(t *testing.T) {
	values, tags := make([]api.Dec, 9), make([]api.Tag, 9)
	values[0], values[1] = api.Dec{Coef: 50}, api.Dec{Coef: 7}
	tags[0], tags[1], tags[2] = api.Tag{Key: "z"}, api.Tag{Key: "a"}, api.Tag{Key: "z"}
	wantLine(t, api.Metric{Name: "a", Kind: api.Counter, Values: values[:2], Rate: 1000000, Tags: tags[:3]}, "a:50:7|c|#a,z")
	for i := range 9 {
		if i > 1 && values[i] != (api.Dec{}) || i > 2 && tags[i] != (api.Tag{}) {
			t.Errorf("behind the lengths stand %v, %v", values, tags)
		}
	}
}

// P11.1: each of metric.Normal's errors, and which one goes ahead.
func TestLineOfNoMetric(t *testing.T) {
	for _, name := range []string{"", "a b", "a:b", "a|b", "a\n", "a/b", "\xff", strings.Repeat("n", 201)} {
		wantNoLine(t, counter(func(m *api.Metric) { m.Name = name }), api.ErrName)
	}
	for _, kind := range []int{0, 6, -1, math.MinInt, math.MaxInt} {
		wantNoLine(t, counter(func(m *api.Metric) { m.Kind = kind }), api.ErrKind)
	}
	for _, l := range [][]api.Dec{nil, {}, {{Coef: 1, Exp: 38}}, {{Coef: 1, Exp: -19}}, {{}, {Coef: math.MaxUint64, Exp: 19}}, make([]api.Dec, 65)} {
		wantNoLine(t, counter(func(m *api.Metric) { m.Values = l }), api.ErrValue)
	}
	for _, r := range []int{0, -1, 1000001, math.MinInt, math.MaxInt} {
		wantNoLine(t, counter(func(m *api.Metric) { m.Rate = r }), api.ErrRate)
	}
	wantNoLine(t, counter(func(m *api.Metric) { m.Kind, m.Rate = api.Gauge, 500000 }), api.ErrRate)
	for _, l := range [][]api.Tag{{{}}, {{Value: "v"}}, {{Key: "k"}, {Key: "a:b"}}, {{Key: "k", Value: "a|b"}}, {{Key: "k", Value: "a,b"}}, {{Key: strings.Repeat("k", 65)}},
		{{Key: "k", Value: strings.Repeat("v", 101)}}, slices.Repeat([]api.Tag{{Key: "k"}}, 33)} {
		wantNoLine(t, counter(func(m *api.Metric) { m.Tags = l }), api.ErrTag)
	}
	for _, time := range []int{-1, 1<<40 + 1, math.MinInt, math.MaxInt} {
		wantNoLine(t, counter(func(m *api.Metric) { m.Time = time }), api.ErrTime)
	}
	wantNoLine(t, api.Metric{}, api.ErrName)
	wantNoLine(t, counter(func(m *api.Metric) { m.Kind, m.Values = 9, nil }), api.ErrKind)
	wantNoLine(t, counter(func(m *api.Metric) { m.Values, m.Rate = nil, 0 }), api.ErrValue)
	wantNoLine(t, counter(func(m *api.Metric) { m.Rate, m.Tags = 0, []api.Tag{{}} }), api.ErrRate)
	wantNoLine(t, counter(func(m *api.Metric) { m.Tags, m.Time = []api.Tag{{}}, -1 }), api.ErrTag)
}

// P11.2: what is parsed, also of what is not written as it would be here.
func TestParse(t *testing.T) {
	wantParse(t, "a:1|c", counter(func(*api.Metric) {}))
	wantParse(t, "a:1|c|@1", counter(func(*api.Metric) {}))
	wantParse(t, "a:01.0|c|@0.50|T7", counter(func(m *api.Metric) { m.Rate, m.Time = 500000, 7 }))
	wantParse(t, "a:1|c|#b,a:x,b|T1099511627776", counter(func(m *api.Metric) { m.Tags, m.Time = []api.Tag{{Key: "a", Value: "x"}, {Key: "b"}}, 1<<40 }))
	wantParse(t, "-:-0:1000:-0.10|d", api.Metric{Name: "-", Kind: api.Dist, Values: []api.Dec{{}, {Coef: 1, Exp: 3}, {Neg: true, Coef: 1, Exp: -1}}, Rate: 1000000})
	wantParse(t, "g:-1|g|@1|#t", api.Metric{Name: "g", Kind: api.Gauge, Values: []api.Dec{{Neg: true, Coef: 1}}, Rate: 1000000, Tags: []api.Tag{{Key: "t"}}})
	wantParse(t, "1:2:2|ms|@0.3", api.Metric{Name: "1", Kind: api.Timer, Values: []api.Dec{{Coef: 2}, {Coef: 2}}, Rate: 300000})
	wantParse(t, ".:2|h|T1", api.Metric{Name: ".", Kind: api.Hist, Values: []api.Dec{{Coef: 2}}, Rate: 1000000, Time: 1})
}

// P11.2: texts of 8192 bytes and of 8193.
func TestParseLength(t *testing.T) {
	for _, line := range []string{"a:|1|c", "a:|2|d|@0.5|#t:1|T7", "a:1:|3|ms"} {
		ahead, behind, _ := strings.Cut(line, "|")
		zeros := 8192 - len(ahead+behind)
		m, f := parseByItsWords(ahead + behind)
		if f != (api.Fault{}) {
			t.Fatal(line, f)
		}
		wantParse(t, ahead+strings.Repeat("0", zeros)+behind, m)
		wantParse(t, ahead+strings.Repeat("0", zeros-1)+behind, m)
		wantFault(t, ahead+strings.Repeat("0", zeros+1)+behind, api.ErrLong, 0)
	}
	// it is told ahead of everything else
	for _, b := range []string{"a", ":", "|", " ", "\x00", "a:", "a:1|c|"} {
		most := (b + strings.Repeat(b[len(b)-1:], 8192))[:8192]
		if _, f := dog.Parse(most); f.Code == api.OK || f.Code == api.ErrLong {
			t.Errorf("8192 bytes that begin with %q are %v", b, f)
		}
		wantByItsWords(t, most)
		wantFault(t, most+"a", api.ErrLong, 0)
		wantFault(t, "a"+most, api.ErrLong, 0)
		wantFault(t, most+most, api.ErrLong, 0)
	}
	wantFault(t, strings.Repeat("x", 1<<20), api.ErrLong, 0)
}

// P11.2: each byte in a name.
func TestParseName(t *testing.T) {
	for i := range 256 {
		b := string([]byte{byte(i)})
		for _, name := range []string{b, "a" + b, b + "a", "a" + b + "a"} {
			switch {
			case strings.Contains(nameBytes, b):
				wantParse(t, name+":1|c", counter(func(m *api.Metric) { m.Name = name }))
				wantFault(t, name, api.ErrForm, len(name))
			case b != ":" && b != "|":
				wantFault(t, name+":1|c", api.ErrName, 0)
				wantFault(t, name, api.ErrName, 0)
				wantFault(t, name+"|c", api.ErrName, 0)
			}
		}
	}
	// the name ends at the first colon, and at a bar
	wantFault(t, "", api.ErrName, 0)
	wantFault(t, ":", api.ErrName, 0)
	wantFault(t, "::1|c", api.ErrName, 0)
	wantFault(t, "|", api.ErrName, 0)
	wantFault(t, "|a:1|c", api.ErrName, 0)
	wantFault(t, "a::1|c", api.ErrValue, 2)
	wantFault(t, "a:b:1|c", api.ErrValue, 2)
}

// P11.2: names of none, of 200 and of 201 bytes, and first pieces without a colon.
func TestParseLengthOfName(t *testing.T) {
	for _, n := range []int{0, 1, 2, 199, 200, 201, 202, 400, 8000} {
		name := strings.Repeat("n", n)
		if n == 0 || n > 200 {
			for _, behind := range []string{"", ":", "|", "|c", ":1|c", ":x|c", ":1|x"} {
				wantFault(t, name+behind, api.ErrName, 0)
			}
			continue
		}
		for _, behind := range []string{"", "|", "|c", "|x", "|c:1", "||", "|:1|c", "|c|@0.5", "|1:2"} {
			wantFault(t, name+behind, api.ErrForm, n)
		}
		wantFault(t, name+":", api.ErrValue, n+1)
		wantParse(t, name+":1|c", counter(func(m *api.Metric) { m.Name = name }))
	}
}

// P11.2: values that dec.Parse refuses, the first one, one between, and the last.
func TestParseValue(t *testing.T) {
	for _, value := range []string{"", "-", "+1", "1.", ".5", "1.2.3", "--1", "1-", "1e3", "0x1", " 1", "1 ", "1,5", "x", "12345x", "\xff",
		"99999999999999999999", "0.0000000000000000001", strings.Repeat("1", 300), "1@", "1\n"} {
		for _, name := range []string{"a", "name"} {
			for _, ahead := range []string{"", "1:", "-2.5:0:", strings.Repeat("7:", 63), strings.Repeat("7:", 64)} {
				at := len(name) + 1 + len(ahead)
				for _, behind := range []string{"", ":1", ":", ":x", ":1:2:3", "|", "|c", ":1|c", "|x", "||", ":|c|@2", strings.Repeat(":8", 70) + "|g"} {
					wantFault(t, name+":"+ahead+value+behind, api.ErrValue, at)
				}
			}
		}
	}
}

// P11.2: 64 values, and 65.
func TestParseManyValues(t *testing.T) {
	for _, n := range []int{1, 2, 63, 64, 65, 66, 200} {
		l, text := manyValues(n)
		for _, name := range []string{"a", "name"} {
			if n <= 64 {
				wantParse(t, name+text+"|c", counter(func(m *api.Metric) { m.Name, m.Values = name, l }))
				continue
			}
			_, ahead := manyValues(64)
			at := len(name) + len(ahead) + 1
			wantFault(t, name+text+"|c", api.ErrValue, at)
			wantFault(t, name+text, api.ErrValue, at)
			wantFault(t, name+text+"|x", api.ErrValue, at)
			wantFault(t, name+":x"+text+"|c", api.ErrValue, len(name)+1)
			wantFault(t, name+ahead+":|c", api.ErrValue, at)
			wantFault(t, name+ahead+":x|c", api.ErrValue, at)
		}
	}
}

// P11.2: lines without a second piece, and each byte in a word.
func TestParseWord(t *testing.T) {
	for _, line := range []string{"a:1", "name:1", "a:1:2:3", "a:-0.50"} {
		wantFault(t, line, api.ErrForm, len(line))
		for _, word := range []string{"", "C", "s", "m", "cc", " c", "c ", "1", ":", "c:1", "@0.5", "#t", "T1", "mss", "ms\n"} {
			for _, behind := range []string{"", "|", "|@2", "|c", "||", "|#", "|x"} {
				wantFault(t, line+"|"+word+behind, api.ErrKind, len(line)+1)
			}
		}
	}
	for i := range 256 {
		b := string([]byte{byte(i)})
		for _, word := range []string{b, "m" + b, b + "s", "c" + b, b + "g", "h" + b, "d" + b, "ms" + b} {
			switch kind := slices.Index(words(), word) + 1; {
			case strings.Contains(word, "|"):
			case kind == 0:
				wantFault(t, "a:1|"+word, api.ErrKind, 4)
			default:
				wantParse(t, "a:1|"+word, counter(func(m *api.Metric) { m.Kind = kind }))
			}
		}
	}
}

// P11.2: pieces that begin with another byte, and empty ones, behind all that may stand ahead of them.
func TestParseBegin(t *testing.T) {
	for _, ahead := range []string{"a:1|c", "a:1|c|@1", "a:1|ms|#t", "a:1|d|T5", "name:1:2|h|@0.5|#t", "a:1|g|@1|T9", "a:1|c|#t|T1", "a:1|c|@0.5|#t:1|T5"} {
		for _, behind := range []string{"", "|", "|@1", "|T5", "|x"} {
			wantFault(t, ahead+"|"+behind, api.ErrForm, len(ahead)+1)
			for i := range 256 {
				if b := string([]byte{byte(i)}); !strings.Contains("@#T|", b) {
					wantFault(t, ahead+"|"+b+behind, api.ErrForm, len(ahead)+1)
					wantFault(t, ahead+"|"+b+"1"+behind, api.ErrForm, len(ahead)+1)
				}
			}
			for _, piece := range []string{"t5", "c", "1", ":1", " @1", " #t", "tag:1", "0.5", "\x00"} {
				wantFault(t, ahead+"|"+piece+behind, api.ErrForm, len(ahead)+1)
			}
		}
	}
}

// P11.2: each order of pieces, each as often as one likes.
func TestParseOrderOfPieces(t *testing.T) {
	pieces := map[byte]string{'@': "|@0.5", '#': "|#t", 'T': "|T5"}
	texts("@#T", 5, func(order string) {
		s, at := "a:1|c", -1
		want := counter(func(*api.Metric) {})
		for i := range len(order) {
			if at < 0 && i > 0 && strings.IndexByte("@#T", order[i]) <= strings.IndexByte("@#T", order[i-1]) {
				at = len(s) + 1
			}
			s += pieces[order[i]]
			switch order[i] {
			case '@':
				want.Rate = 500000
			case '#':
				want.Tags = []api.Tag{{Key: "t"}}
			case 'T':
				want.Time = 5
			}
		}
		if at < 0 {
			wantParse(t, s, want)
		} else {
			wantFault(t, s, api.ErrForm, at)
		}
	})
	// what is behind another one is not asked what it holds
	for _, s := range []string{"|T5|@", "|T5|#", "|T5|T", "|#t|@", "|#t|#", "|@1|@", "|#t|@2", "|T5|#:", "|T5|T0"} {
		wantFault(t, "a:1|c"+s, api.ErrForm, 6+strings.LastIndex(s, "|"))
	}
}

// P11.2: rates that num.Rate refuses, and those that a gauge may not have.
func TestParseRate(t *testing.T) {
	for i, kind := range kinds() {
		line := "a:1|" + words()[i] + "|"
		for _, s := range []string{"", "0", "0.", "0.0", "0.000000", "2", "1.0", "1.", "01", "-1", "+1", "-0.5", ".5", "0.1234567", "0.5000000", "0.5 ", " 0.5", "x", "@", "@1",
			"0.5x", "0,5", "1 ", "1\n", "\xff", "0.5:1", "0.5#t"} {
			for _, behind := range []string{"", "|", "|x", "|@1", "|#t", "|#|T5"} {
				wantFault(t, line+"@"+s+behind, api.ErrRate, len(line))
			}
		}
		wantParse(t, line+"@1", counter(func(m *api.Metric) { m.Kind = kind }))
		wantParse(t, line+"@1|T3", counter(func(m *api.Metric) { m.Kind, m.Time = kind, 3 }))
		for _, s := range []string{"0.5", "0.50", "0.500000"} {
			if kind == api.Gauge {
				wantFault(t, line+"@"+s, api.ErrRate, len(line))
				wantFault(t, line+"@"+s+"|x", api.ErrRate, len(line))
			} else {
				wantParse(t, line+"@"+s, counter(func(m *api.Metric) { m.Kind, m.Rate = kind, 500000 }))
			}
		}
	}
	wantFault(t, "a:1|g|@0.999999", api.ErrRate, 6)
	wantFault(t, "a:1|g|@0.000001", api.ErrRate, 6)
}

// P11.2: tags that tag.Parse refuses, wherever the fault is.
func TestParseTags(t *testing.T) {
	for _, s := range []string{"", ",", "a,", ",a", "a,,b", "a:", ":1", "a:1,b:", "a b", "a:b c", "a#b", "a@", "\xff", "a:\x7f", "a\n", strings.Repeat("k", 65),
		"k:" + strings.Repeat("v", 101), "a:1,b," + strings.Repeat("k", 65)} {
		for _, ahead := range []string{"a:1|c|", "a:1:2|ms|@0.5|", "g:1|g|@1|"} {
			for _, behind := range []string{"", "|", "|#a", "|T0", "|T5", "|@1"} {
				wantFault(t, ahead+"#"+s+behind, api.ErrTag, len(ahead))
			}
		}
	}
	for _, s := range []string{"b,a", "a,b,a", "b,b,a,a,b", "b,a,b"} {
		wantParse(t, "a:1|c|#"+s, counter(func(m *api.Metric) { m.Tags = []api.Tag{{Key: "a"}, {Key: "b"}} }))
	}
	wantParse(t, "a:1|c|#T5,T:@1", counter(func(m *api.Metric) { m.Tags = []api.Tag{{Key: "T", Value: "@1"}, {Key: "T5"}} }))
	wantParse(t, "a:1|c|#a::", counter(func(m *api.Metric) { m.Tags = []api.Tag{{Key: "a", Value: ":"}} }))
	wantParse(t, "a:1|c|#a-,a:1", counter(func(m *api.Metric) { m.Tags = []api.Tag{{Key: "a", Value: "1"}, {Key: "a-"}} }))
	wantParse(t, "a:1|c|#/:"+valueBytes, counter(func(m *api.Metric) { m.Tags = []api.Tag{{Key: "/", Value: valueBytes}} }))
	key, value := strings.Repeat("k", 64), strings.Repeat("v", 100)
	wantParse(t, "a:1|c|#"+key+":"+value, counter(func(m *api.Metric) { m.Tags = []api.Tag{{Key: key, Value: value}} }))
}

// P11.2: 32 tags and 33, also if one is told more than once.
func TestParseManyTags(t *testing.T) {
	for _, n := range []int{1, 31, 32, 33, 34, 100} {
		l, text := manyTags(n)
		again := strings.TrimPrefix(strings.Repeat(",k", n), ",")
		if n > 32 {
			for _, behind := range []string{"", "|T5", "|T0", "|"} {
				wantFault(t, "a:1|c|#"+text+behind, api.ErrTag, 6)
				wantFault(t, "a:1|c|#"+again+behind, api.ErrTag, 6)
				wantFault(t, "a:1|c|@0.5|#"+text+behind, api.ErrTag, 11)
			}
			continue
		}
		wantParse(t, "a:1|c|#"+text, counter(func(m *api.Metric) { m.Tags = l }))
		wantParse(t, "a:1|c|#"+again, counter(func(m *api.Metric) { m.Tags = []api.Tag{{Key: "k"}} }))
		pieces := strings.Split(text, ",")
		slices.Reverse(pieces)
		wantParse(t, "a:1|c|#"+strings.Join(pieces, ",")+"|T5", counter(func(m *api.Metric) { m.Tags, m.Time = l, 5 }))
	}
}

// P11.2: times that num.Time refuses.
func TestParseTime(t *testing.T) {
	for _, s := range []string{"", "0", "00", "01", "-1", "+1", "1.0", "x", "1x", " 1", "1 ", "T1", "1099511627777", "99999999999999999999999", "\xff", "1\n", "5#t"} {
		for _, ahead := range []string{"a:1|c|", "a:1:2|ms|@0.5|", "g:1|g|#t:1|", "a:1|h|@1|#a,b|"} {
			for _, behind := range []string{"", "|", "|#a", "|T5", "|@1"} {
				wantFault(t, ahead+"T"+s+behind, api.ErrTime, len(ahead))
			}
		}
	}
	for _, time := range []int{1, 9, 10, 1700000000, 1<<40 - 1, 1 << 40} {
		wantParse(t, "a:1|c|T"+strconv.Itoa(time), counter(func(m *api.Metric) { m.Time = time }))
	}
}

// piece is a part of a line, how that is wrong (OK: it is not), and at which of its bytes.
type piece struct {
	text string
	code api.Errno
	at   int
}

// P11.2: each fault beside each one that is told later.
func TestOrderOfFaults(t *testing.T) {
	long := strings.Repeat("n", 200)
	names := []piece{{"a", api.OK, 0}, {long, api.OK, 0}, {"", api.ErrName, 0}, {long + "n", api.ErrName, 0}, {"a b", api.ErrName, 0}}
	values := []piece{{":1", api.OK, 0}, {":-1:2.50", api.OK, 0}, {"", api.ErrForm, 0}, {":", api.ErrValue, 1}, {":1:x:2", api.ErrValue, 3}, {":1:2:", api.ErrValue, 5},
		{strings.Repeat(":1", 65), api.ErrValue, 129}}
	words := []piece{{"|c", api.OK, 0}, {"|g", api.OK, 0}, {"|ms", api.OK, 0}, {"|", api.ErrKind, 1}, {"|s", api.ErrKind, 1}, {"|cc", api.ErrKind, 1}, {"|@1", api.ErrKind, 1}}
	rates := []piece{{"", api.OK, 0}, {"|@1", api.OK, 0}, {"|@0.5", api.OK, 0}, {"|", api.ErrForm, 1}, {"|x", api.ErrForm, 1}, {"|@", api.ErrRate, 1}, {"|@2", api.ErrRate, 1}, {"|@1|@2", api.ErrForm, 4}}
	tags := []piece{{"", api.OK, 0}, {"|#b,a", api.OK, 0}, {"|", api.ErrForm, 1}, {"|#", api.ErrTag, 1}, {"|#a:", api.ErrTag, 1}, {"|#a|#", api.ErrForm, 4}, {"|#a|@", api.ErrForm, 4}}
	times := []piece{{"", api.OK, 0}, {"|T5", api.OK, 0}, {"|", api.ErrForm, 1}, {"|x", api.ErrForm, 1}, {"|T", api.ErrTime, 1}, {"|T0", api.ErrTime, 1}, {"|T5|T0", api.ErrForm, 4}, {"|T5|#", api.ErrForm, 4}, {"|T5|", api.ErrForm, 4}}
	for _, name := range names {
		for _, value := range values {
			for _, word := range words {
				for _, rate := range rates {
					if word.text == "|g" && rate.text == "|@0.5" {
						rate = piece{rate.text, api.ErrRate, 1}
					}
					for _, tag := range tags {
						for _, time := range times {
							wantFirst(t, name, value, word, rate, tag, time)
						}
					}
				}
			}
		}
	}
}

// wantFirst asks for the fault of the first piece that has one; a line whose pieces have none is parsed.
func wantFirst(t *testing.T, pieces ...piece) {
	t.Helper()
	s := ""
	wrong := api.Fault{}
	for _, p := range pieces {
		if wrong == (api.Fault{}) && p.code != api.OK {
			wrong = api.Fault{Code: p.code, At: len(s) + p.at}
		}
		s += p.text
	}
	m, f := dog.Parse(s)
	if f != wrong || (f == api.Fault{}) != metric.Is(m) || f != (api.Fault{}) && !same(m, api.Metric{}) {
		t.Errorf("Parse(%q) is %v, %v, not %v", s, m, f, wrong)
	}
}

// P11.2: a line, ever longer by a byte.
func TestBeginnings(t *testing.T) {
	line := "a:1:-2|ms|@0.5|#b:x,a|T70"
	for n, want := range []api.Fault{
		{Code: api.ErrName}, {Code: api.ErrForm, At: 1}, {Code: api.ErrValue, At: 2}, {Code: api.ErrForm, At: 3}, {Code: api.ErrValue, At: 4}, {Code: api.ErrValue, At: 4}, {Code: api.ErrForm, At: 6},
		{Code: api.ErrKind, At: 7}, {Code: api.ErrKind, At: 7}, {}, {Code: api.ErrForm, At: 10}, {Code: api.ErrRate, At: 10}, {Code: api.ErrRate, At: 10}, {Code: api.ErrRate, At: 10}, {},
		{Code: api.ErrForm, At: 15}, {Code: api.ErrTag, At: 15}, {}, {Code: api.ErrTag, At: 15}, {}, {Code: api.ErrTag, At: 15}, {},
		{Code: api.ErrForm, At: 22}, {Code: api.ErrTime, At: 22}, {}, {},
	} {
		if _, f := dog.Parse(line[:n]); f != want {
			t.Errorf("Parse(%q) is %v, not %v", line[:n], f, want)
		}
	}
	wantFault(t, line+"\n", api.ErrTime, 22)
	wantFault(t, line+"|", api.ErrForm, 26)
}

// P11.2: all short texts of some bytes, and all short endings of some lines, by the promise's words.
func TestParseByItsWords(t *testing.T) {
	both := func(s string) { wantByItsWords(t, s) }
	texts("a:|1-@c", 6, both)
	texts("a:1|g#T", 5, both)
	for _, line := range []string{"a:1", "a:-1|", "a:1|c", "a:1|g", "a:1|ms|@1", "a:1|h|#a", "a:1|d|@1|#a"} {
		texts("01.:|@#Ta,", 4, func(s string) { both(line + s) })
	}
	texts("a1:,|", 6, func(s string) { both("a:1|c|#" + s) })
	texts("|@#T1", 7, func(s string) { both("a:1|c" + s) })
}

// P11.3: a metric that is told in many ways is parsed as one, and written as one line.
func TestOneLine(t *testing.T) {
	values := []string{":1:2.5", ":01:2.50", ":1.0:2.5", ":1.00000000000000000000000000:0002.500000000000000000000"}
	for i, kind := range kinds() {
		rates := map[string][]string{"": {"", "|@1"}, "|@0.5": {"|@0.5", "|@0.50", "|@0.500", "|@0.500000"}, "|@0.0001": {"|@0.0001", "|@0.00010", "|@0.000100"}}
		tags := map[string][]string{"": {""}, "|#a:x,b": {"|#a:x,b", "|#b,a:x", "|#b,a:x,b", "|#a:x,a:x,b,b", "|#b" + strings.Repeat(",a:x", 31)}, "|#a,a:1,a:2": {"|#a,a:1,a:2", "|#a:2,a:1,a", "|#a:1,a:2,a,a:1"}}
		for rate, waysOfRate := range rates {
			if kind == api.Gauge && rate != "" {
				continue
			}
			for tags, waysOfTags := range tags {
				for _, time := range []string{"", "|T1", "|T1099511627776"} {
					line := "a.b" + values[0] + "|" + words()[i] + rate + tags + time
					want, f := parseByItsWords(line)
					if f != (api.Fault{}) {
						t.Fatal(line, f)
					}
					wantLine(t, want, line)
					for _, a := range values {
						for _, b := range waysOfRate {
							for _, c := range waysOfTags {
								wantParse(t, "a.b"+a+"|"+words()[i]+b+c+time, want)
							}
						}
					}
				}
			}
		}
	}
}

// P11.3: the longest line that a metric has.
func TestLongestLine(t *testing.T) {
	m := api.Metric{Name: strings.Repeat("n", 200), Kind: api.Timer, Rate: 1, Time: 1 << 40}
	line := m.Name
	for range 64 {
		m.Values = append(m.Values, api.Dec{Neg: true, Coef: math.MaxUint64, Exp: 18})
		line += ":-18446744073709551615000000000000000000"
	}
	line += "|ms|@0.000001|"
	mark := "#"
	for i := range 32 {
		tag := api.Tag{Key: strings.Repeat("k", 62) + strconv.Itoa(10+i), Value: strings.Repeat("v", 100)}
		m.Tags = append(m.Tags, tag)
		line += mark + tag.Key + ":" + tag.Value
		mark = ","
	}
	line += "|T1099511627776"
	wantLine(t, m, line)
	if len(line) != 8101 {
		t.Errorf("the longest line has %d bytes", len(line))
	}
	// as long as a line may be, with zeros that are nothing
	wantParse(t, line[:202]+strings.Repeat("0", 8192-len(line))+line[202:], m)
	wantFault(t, line[:202]+strings.Repeat("0", 8193-len(line))+line[202:], api.ErrLong, 0)
}

// randomMetric is a metric that has a Normal, and mostly not in its one form.
func randomMetric(r *rand.Rand) api.Metric {
	text := func(alphabet string, lo, hi int) string {
		b := make([]byte, lo+r.Intn(hi-lo+1))
		for i := range b {
			b[i] = alphabet[r.Intn(len(alphabet))]
		}
		return string(b)
	}
	m := api.Metric{Name: text(nameBytes, 1, 20), Kind: 1 + r.Intn(5), Rate: 1000000}
	for range 1 + r.Intn(5) {
		m.Values = append(m.Values, api.Dec{Neg: r.Intn(2) == 0, Coef: r.Uint64() >> r.Intn(64), Exp: r.Intn(37) - 18})
	}
	if m.Kind != api.Gauge && r.Intn(2) == 0 {
		m.Rate = 1 + r.Intn(1000000)
	}
	for range r.Intn(6) {
		m.Tags = append(m.Tags, api.Tag{Key: text("abc", 1, 2), Value: text(valueBytes, 0, 3)})
	}
	if r.Intn(2) == 0 {
		m.Time = 1 + r.Intn(1<<40)
	}
	return m
}

// P11.3: metrics at random, there and back.
func TestThereAndBack(t *testing.T) {
	r := rand.New(rand.NewSource(11))
	right := 0
	for range 20000 {
		m := randomMetric(r)
		n, code := metric.Normal(m)
		if code != api.OK {
			wantNoLine(t, m, code) // an exponent went beyond
			continue
		}
		right++
		line, code := dog.Line(m)
		if code != api.OK || strings.Contains(line, "\n") {
			t.Fatalf("Line(%v) is %q, %v", m, line, code)
		}
		wantLine(t, m, line)
		wantLine(t, n, line)
	}
	if right < 10000 {
		t.Errorf("only %d metrics were right", right)
	}
}

// P11.3: lines are the same just if the Normals are.
func TestLinesDiffer(t *testing.T) {
	told := map[string]api.Metric{}
	r := rand.New(rand.NewSource(12))
	for range 20000 {
		m := api.Metric{Name: []string{"a", "b"}[r.Intn(2)], Kind: 1 + r.Intn(5), Rate: 1000000 - r.Intn(2), Time: r.Intn(2)}
		for range 1 + r.Intn(2) {
			m.Values = append(m.Values, api.Dec{Neg: r.Intn(2) == 0, Coef: []uint64{0, 1, 10}[r.Intn(3)], Exp: r.Intn(3) - 1})
		}
		for range r.Intn(3) {
			m.Tags = append(m.Tags, api.Tag{Key: []string{"k", "k1"}[r.Intn(2)], Value: []string{"", "1", ":"}[r.Intn(3)]})
		}
		line, code := dog.Line(m)
		if code != api.OK {
			continue // a gauge's rate
		}
		n, _ := metric.Normal(m)
		if other, ok := told[line]; ok && !same(other, n) {
			t.Errorf("%q is the line of %v and of %v", line, other, n)
		}
		told[line] = n
	}
	if len(told) < 1000 {
		t.Errorf("only %d lines", len(told))
	}
}

// P11.2, P11.3: lines of which some bytes were changed, by the promise's words.
func TestChangedLines(t *testing.T) {
	r := rand.New(rand.NewSource(13))
	const alphabet = "aZ09_.-:|@cgmshdT/#, \n\x00\xff"
	for _, line := range []string{"a.b:1.50:7|ms|@0.1|#b:1,a|T70", "a:1|g|@1|#t", "a:-12|c|T5", "h:0|h|@0.000001", "d:1:2:3|d|#z,y:1"} {
		for range 20000 {
			b := []byte(line)
			for range 1 + r.Intn(3) {
				at := r.Intn(len(b))
				switch other := alphabet[r.Intn(len(alphabet))]; r.Intn(3) {
				case 0:
					b[at] = other
				case 1:
					b = slices.Insert(b, at, other)
				default:
					b = slices.Delete(b, at, at+1)
					b = append(b, other)
				}
			}
			wantByItsWords(t, string(b))
		}
	}
}

// The chapter's examples.
func TestExamples(t *testing.T) {
	m := api.Metric{Name: "a", Kind: api.Timer, Values: []api.Dec{{Coef: 1}, {Coef: 25, Exp: -1}}, Rate: 500000, Tags: []api.Tag{{Key: "a", Value: "x"}, {Key: "b"}}, Time: 7}
	wantParse(t, `a:1:2.50|ms|@0.5|#b,a:x|T7`, m)
	wantLine(t, m, `a:1:2.5|ms|@0.5|#a:x,b|T7`)
	wantFault(t, `a:1|g|@0.5`, api.ErrRate, 6)
	wantFault(t, `a:1|c|T7|@1`, api.ErrForm, 9)
}

// P11.2, P11.3 at any text.
func FuzzParse(f *testing.F) {
	for _, s := range []string{"", "a", "a:", "a:1", "a:1|", "a:1|c", "a:-1:2|g", "a:1|c|", "a:1|c|@", "a:1:2.50|ms|@0.5|#b,a:x|T7", "a:1|g|@0.5", "a:1|h|@1|", "a:1|c|#t", "a:1|d|T5|#t", "a:1|c|#a:1,b:"} {
		f.Add(s)
	}
	f.Fuzz(wantByItsWords)
}
