package tag_test

import (
	"math/rand"
	"slices"
	"strings"
	"testing"

	"forebay/api"
	"forebay/tag"
)

const (
	keys   = "ABCDEFGHIJKLMNOPQRSTUVWXYZabcdefghijklmnopqrstuvwxyz0123456789_.-/"
	values = keys + "!\"#$%&'()*+:;<=>?@[\\]^`{}~"
)

// pair is a tag.
func pair(key, value string) api.Tag { return api.Tag{Key: key, Value: value} }

// row are tags, by keys and values in turn.
func row(words ...string) []api.Tag {
	l := []api.Tag{}
	for i := 0; i < len(words); i += 2 {
		l = append(l, pair(words[i], words[i+1]))
	}
	return l
}

func wrongAt(at int) api.Fault { return api.Fault{Code: api.ErrTag, At: at} }

// turned are tags in their turned order.
func turned(l []api.Tag) []api.Tag {
	l = slices.Clone(l)
	slices.Reverse(l)
	return l
}

// isRight is what the chapter says of right tags, by the bytes that are written out.
func isRight(t api.Tag) bool {
	of := func(s, class string) bool {
		for i := range len(s) {
			if strings.IndexByte(class, s[i]) < 0 {
				return false
			}
		}
		return true
	}
	return len(t.Key) >= 1 && len(t.Key) <= 64 && len(t.Value) <= 100 && of(t.Key, keys) && of(t.Value, values)
}

// parseByItsWords works out what P6.2 says of Parse: a piece is held against the text of each tag that it could be cut into.
func parseByItsWords(s string) ([]api.Tag, api.Fault) {
	var l []api.Tag
	at := 0
	for _, piece := range strings.Split(s, ",") {
		found := []api.Tag{}
		if t := pair(piece, ""); isRight(t) {
			found = append(found, t)
		}
		for i := range len(piece) {
			t := pair(piece[:i], piece[i+1:])
			if piece[i] == ':' && t.Value != "" && isRight(t) {
				found = append(found, t)
			}
		}
		if len(found) != 1 {
			return nil, wrongAt(at)
		}
		l = append(l, found[0])
		at += len(piece) + 1
	}
	return l, api.Fault{}
}

func wantCheck(t *testing.T, key, value string, code api.Errno) {
	t.Helper()
	if got := tag.Check(pair(key, value)); got != code {
		t.Errorf("Check(%q, %q) is %v, not %v", key, value, got, code)
	}
}

// wantLess asks for both ways: what is ahead is not behind.
func wantLess(t *testing.T, a, b api.Tag) {
	t.Helper()
	if !tag.Less(a, b) {
		t.Errorf("Less(%q, %q) does not hold", a, b)
	}
	if tag.Less(b, a) {
		t.Errorf("Less(%q, %q) holds", b, a)
	}
}

// wantNormal asks as well whether l is left as it was, and whether the answer is new memory.
func wantNormal(t *testing.T, l, want []api.Tag) {
	t.Helper()
	was := slices.Clone(l)
	got := tag.Normal(l)
	if !slices.Equal(got, want) {
		t.Errorf("Normal(%q) is %q, not %q", was, got, want)
	}
	if !slices.Equal(l, was) {
		t.Errorf("Normal(%q) made %q of it", was, l)
	}
	for i := range got {
		got[i] = pair("over", "written")
	}
	_ = append(got, pair("put", "behind"))
	if !slices.Equal(l, was) {
		t.Errorf("Normal(%q) shares its memory", was)
	}
}

func wantIs(t *testing.T, l []api.Tag, want bool) {
	t.Helper()
	if got := tag.Is(l); got != want {
		t.Errorf("Is(%q) is %v", l, got)
	}
}

func wantText(t *testing.T, l []api.Tag, s string, place int, code api.Errno) {
	t.Helper()
	was := slices.Clone(l)
	if gotS, gotPlace, gotCode := tag.Text(l); gotS != s || gotPlace != place || gotCode != code {
		t.Errorf("Text(%q) is %q, %d, %v, not %q, %d, %v", was, gotS, gotPlace, gotCode, s, place, code)
	}
	if !slices.Equal(l, was) {
		t.Errorf("Text(%q) made %q of it", was, l)
	}
}

func wantParse(t *testing.T, s string, want []api.Tag, fault api.Fault) {
	t.Helper()
	if l, f := tag.Parse(s); !slices.Equal(l, want) || f != fault {
		t.Errorf("Parse(%q) is %q, %v, not %q, %v", s, l, f, want, fault)
	}
}

// P6.1: how long a Key and a Value may be.
func TestCheckLengths(t *testing.T) {
	key := func(many int) string { return strings.Repeat("k", many) }
	value := func(many int) string { return strings.Repeat("v", many) }
	for _, many := range []int{0, 1, 2, 99, 100} {
		wantCheck(t, key(0), value(many), api.ErrTag)
		wantCheck(t, key(1), value(many), api.OK)
		wantCheck(t, key(2), value(many), api.OK)
		wantCheck(t, key(63), value(many), api.OK)
		wantCheck(t, key(64), value(many), api.OK)
		wantCheck(t, key(65), value(many), api.ErrTag)
		wantCheck(t, key(5000), value(many), api.ErrTag)
	}
	for _, many := range []int{101, 102, 164, 5000} {
		wantCheck(t, key(0), value(many), api.ErrTag)
		wantCheck(t, key(1), value(many), api.ErrTag)
		wantCheck(t, key(64), value(many), api.ErrTag)
		wantCheck(t, key(65), value(many), api.ErrTag)
	}
	// lengths are those of bytes
	wantCheck(t, strings.Repeat("\u00e4", 10), "", api.ErrTag)
	wantCheck(t, "a", strings.Repeat("\u00e4", 10), api.ErrTag)
}

// P6.1: each byte, at the start, in the middle and at the end of a Key and of a Value, and alone.
func TestCheckEveryByte(t *testing.T) {
	codeOf := func(of string, b byte) api.Errno {
		if strings.IndexByte(of, b) < 0 {
			return api.ErrTag
		}
		return api.OK
	}
	for i := range 256 {
		b := string([]byte{byte(i)})
		for _, word := range []string{b, b + "xyz", "xy" + b + "z", "xyz" + b, b + b} {
			wantCheck(t, word, "", codeOf(keys, byte(i)))
			wantCheck(t, word, "v", codeOf(keys, byte(i)))
			wantCheck(t, "k", word, codeOf(values, byte(i)))
		}
		wantCheck(t, strings.Repeat("k", 63)+b, "", codeOf(keys, byte(i)))
		wantCheck(t, "k", strings.Repeat("v", 99)+b, codeOf(values, byte(i)))
	}
	wantCheck(t, "a:b", "", api.ErrTag)
	wantCheck(t, "a", "b:c", api.OK)
	wantCheck(t, "a", "b,c", api.ErrTag)
	wantCheck(t, "a", "b|c", api.ErrTag)
}

// P6.1: a tag is right just if both of its parts are.
func TestCheckBothParts(t *testing.T) {
	for _, key := range []string{"", "a", "a/b", "a:b", " ", strings.Repeat("k", 64), strings.Repeat("k", 65)} {
		for _, value := range []string{"", "a", ":", "a,b", " ", strings.Repeat("v", 100), strings.Repeat("v", 101)} {
			code := api.ErrTag
			if isRight(pair(key, value)) {
				code = api.OK
			}
			wantCheck(t, key, value, code)
		}
	}
}

// ordered are tags, the one that is ahead first; many of them are not right.
func ordered() []api.Tag {
	return row("", "", "", "a", "\x00", "", "\x00", "\xff", " ", "", "-", "", ".", "", "/", "", "1", "", "10", "", "2", "",
		"A", "z", "Z", "", "_", "", "a", "", "a", "\x00", "a", " ", "a", "1", "a", "10", "a", "100", "a", "2", "a", "A",
		"a", "a", "a", "aa", "a", "ab", "a", "b", "a", "\u00e4", "a", "\xff", "a\x00", "", "a,", "", "a/", "", "a:", "",
		"a:b", "", "aa", "", "aa", "a", "ab", "", "b", "", "b", "a", "\u00e4", "", "\u20ac", "", "\xff", "", "\xff", "\xff")
}

// P6.1: Less of each two of a row that is in order, and of a tag and itself.
func TestLess(t *testing.T) {
	l := ordered()
	for i, a := range l {
		if tag.Less(a, a) {
			t.Errorf("Less(%q, %q) holds", a, a)
		}
		for _, b := range l[i+1:] {
			wantLess(t, a, b)
		}
	}
}

// P6.1: one Key with other Values, Keys of which one begins the other, an empty Value, the Key ahead of the Value.
func TestLessEdges(t *testing.T) {
	wantLess(t, pair("a", "1"), pair("a", "2"))
	wantLess(t, pair("a", "10"), pair("a", "2"))
	wantLess(t, pair("a", "B"), pair("a", "a"))
	wantLess(t, pair("a", ""), pair("a", "1"))
	wantLess(t, pair("a", ""), pair("a", "\x00"))
	wantLess(t, pair("a", "1"), pair("a", "11"))
	wantLess(t, pair("a", "z"), pair("ab", ""))
	wantLess(t, pair("a", "z"), pair("ab", "a"))
	wantLess(t, pair("a", "z"), pair("b", "a"))
	wantLess(t, pair("a", ""), pair("b", ""))
	wantLess(t, pair("B", ""), pair("a", ""))
	wantLess(t, pair("", "z"), pair("a", ""))
	wantLess(t, pair("", ""), pair("", "a"))
	// by Key and Value, not by the texts: `/` is less than `:`
	wantLess(t, pair("a", "z"), pair("a/", ""))
	wantLess(t, pair("a", "z"), pair("a-b", ""))
	// bytes are from 0 to 255
	wantLess(t, pair("a", "~"), pair("a", "\x80"))
	wantLess(t, pair("~", ""), pair("\x80", ""))
	for _, a := range row("", "", "a", "", "a", "1", "", "1", "a:b", "c", "\xff", "\x00") {
		if tag.Less(a, a) {
			t.Errorf("Less(%q, %q) holds", a, a)
		}
	}
}

// P6.1: tags in order, turned round, and many times.
func TestNormal(t *testing.T) {
	wantNormal(t, nil, nil)
	wantNormal(t, []api.Tag{}, nil)
	for _, one := range ordered() {
		wantNormal(t, []api.Tag{one}, []api.Tag{one})
		wantNormal(t, slices.Repeat([]api.Tag{one}, 2), []api.Tag{one})
		wantNormal(t, slices.Repeat([]api.Tag{one}, 70), []api.Tag{one})
	}
	l := ordered()
	wantNormal(t, l, l)
	wantNormal(t, turned(l), l)
	wantNormal(t, slices.Concat(l, l, l), l)
	wantNormal(t, slices.Concat(turned(l), l), l)
	wantNormal(t, slices.Concat(l, turned(l)), l)
	wantNormal(t, row("b", "", "a", "2", "b", "", "a", "10", "a", "", "B", "x"), row("B", "x", "a", "", "a", "10", "a", "2", "b", ""))
	wantNormal(t, row("a", "1", "a", "2"), row("a", "1", "a", "2"))
	wantNormal(t, row("a", "2", "a", "1", "a", "2"), row("a", "1", "a", "2"))
	wantNormal(t, row("b", "1", "a", "1"), row("a", "1", "b", "1"))
	// one text, but not one tag
	wantNormal(t, row("a:b", "", "a", "b", "a:b", ""), row("a", "b", "a:b", ""))
	wantNormal(t, row("a", "", "", "a", "a", "a"), row("", "a", "a", "", "a", "a"))
}

// P6.1: more tags than a metric may have are put in order all the same.
func TestNormalOfMany(t *testing.T) {
	l := []api.Tag{}
	for i := range 26 * 26 {
		l = append(l, pair(string([]byte{'a' + byte(i/26)}), string([]byte{'a' + byte(i%26)})))
	}
	wantNormal(t, turned(l), l)
	mixed := slices.Concat(l, l, turned(l))
	rand.New(rand.NewSource(6)).Shuffle(len(mixed), func(i, j int) { mixed[i], mixed[j] = mixed[j], mixed[i] })
	wantNormal(t, mixed, l)
}

// R2: what stands behind the length of what is handed in is left as it is, and the answer goes nowhere near it.
func TestNormalLeavesWhatStandsBehind(t *testing.T) {
	all := row("b", "", "a", "", "b", "", "z", "1", "y", "2")
	was := slices.Clone(all)
	for many := range len(all) + 1 {
		l := tag.Normal(all[:many])
		_ = append(l, pair("x", "x"))
		for i := range l {
			l[i] = api.Tag{}
		}
		if !slices.Equal(all, was) {
			t.Fatalf("Normal of the first %d made %q of %q", many, all, was)
		}
	}
}

// P6.1: none, one, in order, two that are the same, two that are turned round.
func TestIs(t *testing.T) {
	wantIs(t, nil, true)
	wantIs(t, []api.Tag{}, true)
	l := ordered()
	wantIs(t, l, true)
	for i, one := range l {
		wantIs(t, []api.Tag{one}, true)
		wantIs(t, []api.Tag{one, one}, false)
		wantIs(t, slices.Insert(slices.Clone(l), i, one), false)
		wantIs(t, slices.Delete(slices.Clone(l), i, i+1), true)
		wantIs(t, l[i:], true)
		for j := range i {
			wantIs(t, []api.Tag{l[j], one}, true)
			wantIs(t, []api.Tag{one, l[j]}, false)
			swapped := slices.Clone(l)
			swapped[i], swapped[j] = swapped[j], swapped[i]
			wantIs(t, swapped, false)
		}
	}
	wantIs(t, row("a", "1", "b", "", "a", "2"), false)
	wantIs(t, row("b", "", "a", "", "c", ""), false)
	wantIs(t, row("a", "", "b", "", "a", ""), false)
	wantIs(t, row("a", "", "a", "1", "b", ""), true)
}

// P6.2: texts of no tag, of one and of many, as they stand.
func TestText(t *testing.T) {
	wantText(t, nil, "", 0, api.OK)
	wantText(t, []api.Tag{}, "", 0, api.OK)
	wantText(t, row("a", ""), "a", 0, api.OK)
	wantText(t, row("a", "1"), "a:1", 0, api.OK)
	wantText(t, row("a/b", ":"), "a/b::", 0, api.OK)
	wantText(t, row("a", "b:c", "d", "#"), "a:b:c,d:#", 0, api.OK)
	wantText(t, row("env", "prod", "host", ""), "env:prod,host", 0, api.OK)
	wantText(t, row("host", "", "env", "prod"), "host,env:prod", 0, api.OK)
	wantText(t, row("b", "", "a", "", "b", ""), "b,a,b", 0, api.OK)
	wantText(t, row("a", "2", "a", "1", "a", "", "a", ""), "a:2,a:1,a,a", 0, api.OK)
	wantText(t, row(keys[:64], values[:92], "k", values[20:]), keys[:64]+":"+values[:92]+",k:"+values[20:], 0, api.OK)
	key, value := strings.Repeat("k", 64), strings.Repeat("v", 100)
	one := key + ":" + value
	wantText(t, row(key, value), one, 0, api.OK)
	wantText(t, slices.Repeat(row(key, value), 40), strings.Repeat(one+",", 39)+one, 0, api.OK)
}

// P6.2: the first, a middle and the last tag that is not right; the first one of several is told.
func TestTextOfWrongTags(t *testing.T) {
	for _, wrong := range row("", "", "", "x", "a:", "", "a:b", "c", "a,b", "", " ", "", "a", "b,c", "a", " ", "a", "|", "a", "\xff",
		"a\n", "", strings.Repeat("k", 65), "", "a", strings.Repeat("v", 101)) {
		for many := 1; many <= 5; many++ {
			for place := range many {
				l := slices.Repeat(row("a", "1"), many)
				l[place] = wrong
				wantText(t, l, "", place, api.ErrTag)
				l[many-1] = wrong
				wantText(t, l, "", place, api.ErrTag)
			}
		}
		wantText(t, slices.Repeat([]api.Tag{wrong}, 3), "", 0, api.ErrTag)
	}
	wantText(t, append(slices.Repeat(row("a", ""), 500), api.Tag{}), "", 500, api.ErrTag)
}

// P6.2: tags as they stand, in any order and however often.
func TestParse(t *testing.T) {
	none := api.Fault{}
	wantParse(t, "a", row("a", ""), none)
	wantParse(t, "a:1", row("a", "1"), none)
	wantParse(t, "env:prod,host", row("env", "prod", "host", ""), none)
	wantParse(t, "host,env:prod,host", row("host", "", "env", "prod", "host", ""), none)
	wantParse(t, "b,a,b,a:2,a:1", row("b", "", "a", "", "b", "", "a", "2", "a", "1"), none)
	wantParse(t, "a:b:c,d:#", row("a", "b:c", "d", "#"), none)
	wantParse(t, "a::", row("a", ":"), none)
	wantParse(t, "a::b", row("a", ":b"), none)
	wantParse(t, "a:b:", row("a", "b:"), none)
	wantParse(t, "a:::,b", row("a", "::", "b", ""), none)
	wantParse(t, "/:/", row("/", "/"), none)
	wantParse(t, keys[:64]+":"+values, row(keys[:64], values), none)
	wantParse(t, strings.Repeat("a:1,", 99)+"a:1", slices.Repeat(row("a", "1"), 100), none)
}

// P6.2: pieces without a byte, wherever they stand, are told at the byte that they would have.
func TestParseEmptyPieces(t *testing.T) {
	for s, at := range map[string]int{
		"": 0, ",": 0, ",,": 0, ",a": 0, ",a,b": 0, "a,": 2, "a,b,": 4, "a:1,": 4, "a,,b": 2, "a,,": 2, "a:1,b:2,,c": 8,
		"abc,,": 4, ",\xff": 0, "a,,\xff": 2,
	} {
		wantParse(t, s, nil, wrongAt(at))
	}
}

// P6.2: a colon at the start or at the end of a piece.
func TestParseColons(t *testing.T) {
	for s, at := range map[string]int{
		":": 0, "::": 0, ":b": 0, ":b:c": 0, "b:": 0, "a:1,b:": 4, "a:1,:b": 4, "a:1,:": 4, "b:,a": 0, "a,b:,c:": 2, "a:1,b:,c": 4,
		"a,:": 2, "a,b,:c": 4, "a:,": 0,
	} {
		wantParse(t, s, nil, wrongAt(at))
	}
}

// P6.2: a Key and a Value just as long as may be, and a byte longer.
func TestParseLengths(t *testing.T) {
	key, value := strings.Repeat("k", 64), strings.Repeat("v", 100)
	none := api.Fault{}
	wantParse(t, key, row(key, ""), none)
	wantParse(t, key+":"+value, row(key, value), none)
	wantParse(t, "a,"+key+":"+value+",b", row("a", "", key, value, "b", ""), none)
	wantParse(t, "a:"+strings.Repeat(":", 100), row("a", strings.Repeat(":", 100)), none)
	for _, s := range []string{key + "k", key + "k:v", key + ":" + value + "v", "k:" + value + "v", key + "k:" + value, key + "k:",
		"a:" + strings.Repeat(":", 101), strings.Repeat("k", 5000), "k:" + strings.Repeat("v", 5000)} {
		wantParse(t, s, nil, wrongAt(0))
		wantParse(t, s+",a", nil, wrongAt(0))
		wantParse(t, "a,"+s, nil, wrongAt(2))
		wantParse(t, key+":"+value+","+s+",a", nil, wrongAt(166))
	}
}

// P6.2: each byte in a Key and in a Value, of the first piece, of a middle one and of the last one.
func TestParseEveryByte(t *testing.T) {
	for i := range 256 {
		b := string([]byte{byte(i)})
		for _, piece := range []string{b, b + "x", "x" + b, "x" + b + "y", "k:" + b, "k:" + b + "x", "k:x" + b, b + ":v", "x" + b + "y:v"} {
			for _, s := range []string{piece, "a," + piece, piece + ",a", "ab:c," + piece + ",d"} {
				l, f := parseByItsWords(s)
				wantParse(t, s, l, f)
			}
		}
	}
	for s, at := range map[string]int{
		"a b": 0, "a,b c": 2, "a:b|c": 0, "a:b c": 0, "a,b:c|": 2, " a": 0, "a, b": 2, "a ,b": 0, "a\n": 0, "a:1\n": 0, "\u00e4": 0,
		"a:\u00e4": 0, "a,b\u00e4:c": 2, "a#b": 0, "a=b": 0, "a,b;c": 2,
	} {
		wantParse(t, s, nil, wrongAt(at))
	}
}

// P6.2: of several pieces that are wrong the first one is told.
func TestParseTellsTheFirst(t *testing.T) {
	wantParse(t, "a b,c d", nil, wrongAt(0))
	wantParse(t, "a,b:,c d,:", nil, wrongAt(2))
	wantParse(t, "a,b,c d,", nil, wrongAt(4))
	wantParse(t, strings.Repeat("a:1,", 1000)+":,,", nil, wrongAt(4000))
	wantParse(t, strings.Repeat(",", 100000), nil, wrongAt(0))
	wantParse(t, strings.Repeat(":", 100000), nil, wrongAt(0))
}

// texts hands on each text of up to so many of the bytes.
func texts(alphabet string, most int, each func(s string)) {
	var longer func(s string)
	longer = func(s string) {
		each(s)
		if len(s) < most {
			for i := range len(alphabet) {
				longer(s + alphabet[i:i+1])
			}
		}
	}
	longer("")
}

// P6.2 and P6.3: each short text of some bytes, by the promise's words; what is parsed is right, and written as it stood.
func TestParseByItsWords(t *testing.T) {
	texts("ab:, ", 6, func(s string) {
		want, f := parseByItsWords(s)
		wantParse(t, s, want, f)
		if f == (api.Fault{}) {
			wantWrittenAsItStood(t, s)
		}
	})
}

func wantWrittenAsItStood(t *testing.T, s string) {
	t.Helper()
	l, _ := tag.Parse(s)
	for _, one := range l {
		wantCheck(t, one.Key, one.Value, api.OK)
	}
	wantText(t, l, s, 0, api.OK)
}

// wantThereAndBack holds what is written against what is parsed of it.
func wantThereAndBack(t *testing.T, l []api.Tag) {
	t.Helper()
	s, _, code := tag.Text(l)
	if code != api.OK {
		t.Errorf("Text(%q): %v", l, code)
		return
	}
	wantParse(t, s, l, api.Fault{})
}

// rightTags are right tags, the least and the longest ones among them.
func rightTags() []api.Tag {
	return row("a", "", "a", "1", "a", ":", "a", "::", "a", "b:c", "a", "#", "a/b", "", "-", "@", "b", "", "b", "\"",
		strings.Repeat("k", 64), "", strings.Repeat("k", 64), strings.Repeat("v", 100), "a", strings.Repeat(":", 100))
}

// P6.3: what is written is parsed, in each order.
func TestThereAndBack(t *testing.T) {
	right := rightTags()
	for _, a := range right {
		wantThereAndBack(t, []api.Tag{a})
		for _, b := range right {
			wantThereAndBack(t, []api.Tag{a, b})
			for _, c := range right {
				wantThereAndBack(t, []api.Tag{a, b, c})
			}
		}
	}
	wantThereAndBack(t, slices.Repeat(right, 50))
	// no tag is written as a text that no tags have
	s, _, _ := tag.Text(nil)
	wantParse(t, s, nil, wrongAt(0))
}

// P6.3: whichever way, and how often, tags are told, Normal is the same, in order, and its own Normal.
func TestNormalHoweverTold(t *testing.T) {
	source := rand.New(rand.NewSource(63))
	all := ordered()
	for range 500 {
		set := map[api.Tag]bool{}
		var told []api.Tag
		for range source.Intn(40) {
			one := all[source.Intn(len(all))]
			set[one] = true
			told = append(told, slices.Repeat([]api.Tag{one}, 1+source.Intn(3))...)
		}
		var want []api.Tag
		for _, one := range all {
			if set[one] {
				want = append(want, one)
			}
		}
		for range 4 {
			source.Shuffle(len(told), func(i, j int) { told[i], told[j] = told[j], told[i] })
			wantNormal(t, told, want)
		}
		wantIs(t, want, true)
		wantIs(t, told, slices.Equal(told, want))
		wantNormal(t, want, want)
	}
}

// P6.3: of two tags that are not one just one is ahead, of one none; what is ahead of one that is ahead is ahead.
func TestJustOneIsAhead(t *testing.T) {
	var l []api.Tag
	texts("a:\xff", 2, func(key string) {
		texts("a:\xff", 2, func(value string) { l = append(l, pair(key, value)) })
	})
	for _, a := range l {
		for _, b := range l {
			if (a != b) != (tag.Less(a, b) != tag.Less(b, a)) || a == b && tag.Less(a, b) {
				t.Fatalf("of %q and %q", a, b)
			}
		}
	}
	l = tag.Normal(l)
	for i := range l {
		for j := range i {
			wantLess(t, l[j], l[i])
		}
	}
}

// The chapter's examples.
func TestExamples(t *testing.T) {
	wantParse(t, `env:prod,host`, row("env", "prod", "host", ""), api.Fault{})
	wantParse(t, `a:1,b:`, nil, wrongAt(4))
	wantParse(t, ``, nil, wrongAt(0))
	wantNormal(t, row("host", "", "env", "prod", "host", ""), row("env", "prod", "host", ""))
}

// R2: two answers share no memory.
func TestAnswersShareNothing(t *testing.T) {
	first, _ := tag.Parse("a:1,b")
	second, _ := tag.Parse("a:1,b")
	first[0] = api.Tag{}
	if !slices.Equal(second, row("a", "1", "b", "")) {
		t.Errorf("Parse: %q", second)
	}
	l := row("a", "1", "b", "")
	first, second = tag.Normal(l), tag.Normal(l)
	first[0] = api.Tag{}
	if !slices.Equal(second, l) {
		t.Errorf("Normal: %q", second)
	}
}

// P6.2 and P6.3 at any text.
func FuzzParse(f *testing.F) {
	for _, s := range []string{"", ",", "a", "a:1,b:", "env:prod,host", "a:b:c", ":b", "a b", "a,\xff"} {
		f.Add(s)
	}
	f.Fuzz(func(t *testing.T, s string) {
		want, fault := parseByItsWords(s)
		wantParse(t, s, want, fault)
		if fault == (api.Fault{}) {
			wantWrittenAsItStood(t, s)
		}
	})
}

// P6.1 to P6.3 at any two tags.
func FuzzTags(f *testing.F) {
	f.Add("a", "1", "a", "")
	f.Add("a:b", "", "a", "b")
	f.Add("", "", "\xff", "\x00")
	f.Fuzz(func(t *testing.T, keyA, valueA, keyB, valueB string) {
		a, b := pair(keyA, valueA), pair(keyB, valueB)
		for _, one := range []api.Tag{a, b} {
			if (tag.Check(one) == api.OK) != isRight(one) {
				t.Errorf("Check(%q) is %v", one, tag.Check(one))
			}
		}
		if isRight(a) && isRight(b) {
			wantThereAndBack(t, []api.Tag{a, b})
		}
		switch {
		case a == b:
			wantNormal(t, []api.Tag{a, b}, []api.Tag{a})
		case tag.Less(a, b):
			wantLess(t, a, b)
			wantNormal(t, []api.Tag{b, a, b}, []api.Tag{a, b})
		default:
			wantLess(t, b, a)
			wantNormal(t, []api.Tag{a, b, a}, []api.Tag{b, a})
		}
	})
}
