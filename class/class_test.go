package class_test

import (
	"math"
	"strings"
	"testing"

	"forebay/api"
	"forebay/class"
)

const (
	letters = "ABCDEFGHIJKLMNOPQRSTUVWXYZabcdefghijklmnopqrstuvwxyz"
	digits  = "0123456789"
	names   = letters + digits + "_.-"
	keys    = names + "/"
	values  = keys + "!\"#$%&'()*+:;<=>?@[\\]^`{}~"
)

var (
	classes = []int{class.Name, class.Key, class.Value, class.Digit}
	// noClasses are the numbers beside the classes, and those farthest from them.
	noClasses = []int{0, 5, -1, -4, 6, 257, math.MinInt, math.MaxInt}
)

// bytesOf are the bytes of a class, written out by hand: none of what is no class.
func bytesOf(c int) string {
	switch c {
	case class.Name:
		return names
	case class.Key:
		return keys
	case class.Value:
		return values
	case class.Digit:
		return digits
	}
	return ""
}

// isOf is what the chapter says of Is, by the bytes that are written out.
func isOf(c int, b byte) bool { return strings.IndexByte(bytesOf(c), b) >= 0 }

func fault(code api.Errno, at int) api.Fault { return api.Fault{Code: code, At: at} }

func wantBad(t *testing.T, c int, s string, at int, code api.Errno) {
	t.Helper()
	if gotAt, gotCode := class.Bad(c, s); gotAt != at || gotCode != code {
		t.Errorf("Bad(%d, %q) is %d, %v, not %d, %v", c, s, gotAt, gotCode, at, code)
	}
}

func wantText(t *testing.T, c int, s string, lo, hi int, want api.Fault) {
	t.Helper()
	if got := class.Text(c, s, lo, hi); got != want {
		t.Errorf("Text(%d, %q, %d, %d) is %v, not %v", c, s, lo, hi, got, want)
	}
}

func wantCount(t *testing.T, c, many int, code api.Errno) {
	t.Helper()
	if gotMany, gotCode := class.Count(c); gotMany != many || gotCode != code {
		t.Errorf("Count(%d) is %d, %v, not %d, %v", c, gotMany, gotCode, many, code)
	}
}

// The numbers of the classes are part of the chapter.
func TestNumbersOfClasses(t *testing.T) {
	if class.Name != 1 || class.Key != 2 || class.Value != 3 || class.Digit != 4 {
		t.Error(class.Name, class.Key, class.Value, class.Digit)
	}
}

// P4.1: Is of all 256 bytes of each class.
func TestIsOfEveryByte(t *testing.T) {
	for _, c := range classes {
		for i := range 256 {
			if b := byte(i); class.Is(c, b) != isOf(c, b) {
				t.Errorf("Is(%d, %d) is %v", c, b, class.Is(c, b))
			}
		}
	}
}

// P4.1: Value is told by its bounds and by what it lacks, not by the letters that the other tests write out.
func TestIsOfValueByItsBounds(t *testing.T) {
	for i := range 256 {
		want := i >= 33 && i <= 126 && i != ',' && i != '|'
		if class.Is(class.Value, byte(i)) != want {
			t.Errorf("Is(Value, %d) is %v", i, !want)
		}
	}
}

// P4.1: no byte is of a number that is no class.
func TestIsOfNoClass(t *testing.T) {
	for _, c := range noClasses {
		for i := range 256 {
			if class.Is(c, byte(i)) {
				t.Errorf("Is(%d, %d) holds", c, i)
			}
		}
	}
}

// P4.1: how many bytes each class has.
func TestCount(t *testing.T) {
	wantCount(t, class.Name, 65, api.OK)
	wantCount(t, class.Key, 66, api.OK)
	wantCount(t, class.Value, 92, api.OK)
	wantCount(t, class.Digit, 10, api.OK)
	for _, c := range noClasses {
		wantCount(t, c, 0, api.ErrArg)
	}
}

// P4.1: the first bad byte at the start, in the middle, at the end, and none.
func TestBad(t *testing.T) {
	for _, c := range classes {
		good := bytesOf(c)
		wantBad(t, c, "", -1, api.OK)
		wantBad(t, c, good, -1, api.OK)
		wantBad(t, c, " "+good, 0, api.OK)
		wantBad(t, c, good[:5]+"|"+good[5:], 5, api.OK)
		wantBad(t, c, good+"\x7f", len(good), api.OK)
		wantBad(t, c, "1 2 3", 1, api.OK)
		wantBad(t, c, "\x00", 0, api.OK)
		wantBad(t, c, "1\n", 1, api.OK)
	}
	wantBad(t, class.Name, "a/b", 1, api.OK)
	wantBad(t, class.Key, "a/b", -1, api.OK)
	wantBad(t, class.Key, "a:b", 1, api.OK)
	wantBad(t, class.Value, "a:b", -1, api.OK)
	wantBad(t, class.Value, "ab,c", 2, api.OK)
	wantBad(t, class.Value, "ab|c", 2, api.OK)
	wantBad(t, class.Digit, "1a", 1, api.OK)
}

// P4.1: each byte, behind one that is good, is told at its place, not at that of a rune.
func TestBadOfEveryByte(t *testing.T) {
	for _, c := range classes {
		for i := range 256 {
			at := 1
			if isOf(c, byte(i)) {
				at = -1
			}
			wantBad(t, c, string([]byte{'7', byte(i)}), at, api.OK)
		}
		wantBad(t, c, "1\u00e4", 1, api.OK)
		wantBad(t, c, "12\u20ac", 2, api.OK)
		wantBad(t, c, "1\xff", 1, api.OK)
		wantBad(t, c, "\x80", 0, api.OK)
	}
}

// P4.1: of what is no class Bad tells no place, whatever the text.
func TestBadOfNoClass(t *testing.T) {
	for _, c := range noClasses {
		for _, s := range []string{"", "1", "a1 ", "\xff"} {
			wantBad(t, c, s, 0, api.ErrArg)
		}
	}
}

// P4.2: lengths that are just right, one byte too short and one too long.
func TestTextLengths(t *testing.T) {
	for _, c := range classes {
		wantText(t, c, "", 0, 0, api.Fault{})
		wantText(t, c, "", 0, 3, api.Fault{})
		wantText(t, c, "", 1, 3, fault(api.ErrShort, 0))
		wantText(t, c, "1", 0, 0, fault(api.ErrLong, 0))
		wantText(t, c, "1", 2, 4, fault(api.ErrShort, 1))
		wantText(t, c, "12", 2, 4, api.Fault{})
		wantText(t, c, "123", 2, 4, api.Fault{})
		wantText(t, c, "1234", 2, 4, api.Fault{})
		wantText(t, c, "12345", 2, 4, fault(api.ErrLong, 4))
		wantText(t, c, "1234567", 2, 4, fault(api.ErrLong, 4))
		wantText(t, c, "12", 3, 3, fault(api.ErrShort, 2))
		wantText(t, c, "123", 3, 3, api.Fault{})
		wantText(t, c, "1234", 3, 3, fault(api.ErrLong, 3))
	}
}

// P4.2: a bad byte at the start, in the middle and at the end.
func TestTextBadBytes(t *testing.T) {
	for _, c := range classes {
		wantText(t, c, "|12", 1, 3, fault(api.ErrChar, 0))
		wantText(t, c, "1|2", 1, 3, fault(api.ErrChar, 1))
		wantText(t, c, "12|", 1, 3, fault(api.ErrChar, 2))
		wantText(t, c, "1||", 1, 3, fault(api.ErrChar, 1))
		wantText(t, c, "|", 1, 1, fault(api.ErrChar, 0))
	}
}

// P4.2: a length that is wrong goes ahead of a byte that is wrong.
func TestTextLengthAheadOfBytes(t *testing.T) {
	for _, c := range classes {
		wantText(t, c, "|", 2, 3, fault(api.ErrShort, 1))
		wantText(t, c, "1|", 3, 3, fault(api.ErrShort, 2))
		wantText(t, c, "|234", 1, 3, fault(api.ErrLong, 3))
		wantText(t, c, "123|", 1, 3, fault(api.ErrLong, 3))
		wantText(t, c, "|", 0, 0, fault(api.ErrLong, 0))
	}
}

// P4.2: what is wrong with class, lo or hi goes ahead of all that is wrong with the text.
func TestTextArguments(t *testing.T) {
	wrong := fault(api.ErrArg, 0)
	for _, s := range []string{"", "1", "1|3", "12345"} {
		for _, c := range noClasses {
			wantText(t, c, s, 0, 3, wrong)
			wantText(t, c, s, 2, 3, wrong)
			wantText(t, c, s, 9, 9, wrong)
			wantText(t, c, s, -1, 3, wrong)
			wantText(t, c, s, 3, 1, wrong)
		}
		for _, c := range classes {
			wantText(t, c, s, -1, 3, wrong)
			wantText(t, c, s, -1, -1, wrong)
			wantText(t, c, s, 0, -1, wrong)
			wantText(t, c, s, 1, 0, wrong)
			wantText(t, c, s, 3, 2, wrong)
			wantText(t, c, s, -2, -3, wrong)
		}
	}
}

// P4.2: the least and the greatest int for lo and hi.
func TestTextFarBounds(t *testing.T) {
	wrong := fault(api.ErrArg, 0)
	for _, c := range classes {
		wantText(t, c, "123", math.MinInt, 3, wrong)
		wantText(t, c, "123", math.MinInt, math.MinInt, wrong)
		wantText(t, c, "123", math.MinInt, math.MaxInt, wrong)
		wantText(t, c, "123", 0, math.MinInt, wrong)
		wantText(t, c, "123", math.MaxInt, math.MinInt, wrong)
		wantText(t, c, "123", math.MaxInt, math.MaxInt-1, wrong)
		wantText(t, c, "123", 0, math.MaxInt, api.Fault{})
		wantText(t, c, "1|3", 0, math.MaxInt, fault(api.ErrChar, 1))
		wantText(t, c, "123", math.MaxInt, math.MaxInt, fault(api.ErrShort, 3))
		wantText(t, c, "", math.MaxInt, math.MaxInt, fault(api.ErrShort, 0))
	}
}

// P4.2: each byte tells itself.
func TestTextOfEveryByte(t *testing.T) {
	for _, c := range classes {
		for i := range 256 {
			want := fault(api.ErrChar, 1)
			if isOf(c, byte(i)) {
				want = api.Fault{}
			}
			wantText(t, c, string([]byte{'7', byte(i)}), 1, 3, want)
		}
	}
}

// P4.3: what is a Digit is of Name, what is of Name of Key, what is of Key of Value; each class is wider than the one ahead of it.
func TestClassesHoldOneAnother(t *testing.T) {
	row := []int{class.Digit, class.Name, class.Key, class.Value}
	for n := range len(row) - 1 {
		more := 0
		for i := range 256 {
			b := byte(i)
			if class.Is(row[n], b) && !class.Is(row[n+1], b) {
				t.Errorf("byte %d is of class %d, not of %d", b, row[n], row[n+1])
			}
			if !class.Is(row[n], b) && class.Is(row[n+1], b) {
				more++
			}
		}
		if more == 0 {
			t.Errorf("class %d has no more than class %d", row[n+1], row[n])
		}
	}
}

// P4.3: a text is of a class just if its parts are, wherever it is cut.
func TestTextsByTheirParts(t *testing.T) {
	texts := []string{"", "7", "a.b-c_d", "a/b", "k:v", "007", "a b", "|a", "a,", "1\u00e4", "\x80\xff", keys, values}
	for _, c := range classes {
		for _, s := range texts {
			for cut := range len(s) + 1 {
				wantParts(t, c, s[:cut], s[cut:])
			}
		}
	}
}

func wantParts(t *testing.T, c int, left, right string) {
	t.Helper()
	whole, _ := class.Bad(c, left+right)
	first, _ := class.Bad(c, left)
	second, _ := class.Bad(c, right)
	if (whole == -1) != (first == -1 && second == -1) {
		t.Errorf("class %d: %q and %q tell %d and %d, as one %d", c, left, right, first, second, whole)
	}
}

// The chapter's examples.
func TestExamples(t *testing.T) {
	wantBad(t, class.Name, `a/b`, 1, api.OK)
	wantBad(t, class.Key, `a/b`, -1, api.OK)
	wantText(t, class.Digit, `12a`, 1, 3, fault(api.ErrChar, 2))
	wantText(t, class.Digit, `1234`, 1, 3, fault(api.ErrLong, 3))
	wantText(t, class.Digit, ``, 1, 3, fault(api.ErrShort, 0))
	wantCount(t, class.Name, 65, api.OK)
	wantCount(t, class.Value, 92, api.OK)
}

// faultOf works out what P4.2 says, by the bytes that are written out.
func faultOf(c int, s string, lo, hi int) api.Fault {
	switch {
	case bytesOf(c) == "", lo < 0, hi < lo:
		return fault(api.ErrArg, 0)
	case len(s) < lo:
		return fault(api.ErrShort, len(s))
	case len(s) > hi:
		return fault(api.ErrLong, hi)
	}
	for i, b := range []byte(s) {
		if !isOf(c, b) {
			return fault(api.ErrChar, i)
		}
	}
	return api.Fault{}
}

// P4.2 and P4.3, at any arguments.
func FuzzText(f *testing.F) {
	f.Add(class.Name, "a.b", 0, 9, 1)
	f.Add(class.Key, "a/b c", 1, 5, 2)
	f.Add(class.Value, "a,b", 4, 5, 0)
	f.Add(class.Digit, "12345", 1, 4, 9)
	f.Add(0, "x", -1, -2, -3)
	f.Fuzz(func(t *testing.T, c int, s string, lo, hi, cut int) {
		wantText(t, c, s, lo, hi, faultOf(c, s, lo, hi))
		cut = max(0, min(cut, len(s)))
		if bytesOf(c) != "" {
			wantParts(t, c, s[:cut], s[cut:])
		}
	})
}
