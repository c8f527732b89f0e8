package varint_test

import (
	"bytes"
	"math"
	"math/big"
	"slices"
	"testing"

	"forebay/api"
	"forebay/cur"
	"forebay/varint"
)

// row is so many bytes of one value, and those that end them.
func row(many int, b byte, end ...byte) []byte {
	return append(bytes.Repeat([]byte{b}, many), end...)
}

// known are numbers and their bytes, written out by hand.
var known = []struct {
	n uint64
	b []byte
}{
	{0, []byte{0}},
	{1, []byte{1}},
	{126, []byte{126}},
	{127, []byte{127}},
	{128, []byte{128, 1}},
	{129, []byte{129, 1}},
	{255, []byte{255, 1}},
	{256, []byte{128, 2}},
	{300, []byte{172, 2}},
	{1<<14 - 1, []byte{255, 127}},
	{1 << 14, []byte{128, 128, 1}},
	{1<<21 - 1, []byte{255, 255, 127}},
	{1 << 21, []byte{128, 128, 128, 1}},
	{1<<28 - 1, row(3, 255, 127)},
	{1 << 28, row(4, 128, 1)},
	{1<<35 - 1, row(4, 255, 127)},
	{1 << 35, row(5, 128, 1)},
	{1<<42 - 1, row(5, 255, 127)},
	{1 << 42, row(6, 128, 1)},
	{1<<49 - 1, row(6, 255, 127)},
	{1 << 49, row(7, 128, 1)},
	{1<<56 - 1, row(7, 255, 127)},
	{1 << 56, row(8, 128, 1)},
	{1<<63 - 1, row(8, 255, 127)},
	{1 << 63, row(9, 128, 1)},
	{math.MaxUint64 - 1, append([]byte{254}, row(8, 255, 1)...)},
	{math.MaxUint64, row(9, 255, 1)},
}

// bad are rows that are no number: at is the byte by which that is known, or the end of all of them.
var bad = []struct {
	b    []byte
	code api.Errno
	at   int
}{
	{nil, api.ErrShort, 0},
	{[]byte{}, api.ErrShort, 0},
	{[]byte{128}, api.ErrShort, 1},
	{[]byte{255}, api.ErrShort, 1},
	{[]byte{172, 130}, api.ErrShort, 2},
	{row(8, 128), api.ErrShort, 8},
	{row(9, 128), api.ErrShort, 9},
	{row(9, 255), api.ErrShort, 9},

	{[]byte{128, 0}, api.ErrCanon, 1},
	{[]byte{255, 0}, api.ErrCanon, 1},
	{[]byte{128, 0, 1}, api.ErrCanon, 1},
	{[]byte{128, 0, 128, 0}, api.ErrCanon, 1},
	{[]byte{255, 128, 0, 5}, api.ErrCanon, 2},
	{row(8, 255, 0), api.ErrCanon, 8},
	{row(9, 255, 0), api.ErrCanon, 9},
	{row(9, 128, 0), api.ErrCanon, 9},
	{row(9, 128, 0, 2), api.ErrCanon, 9},

	{row(9, 255, 2), api.ErrRange, 9},
	{row(9, 128, 2), api.ErrRange, 9},
	{row(9, 255, 127), api.ErrRange, 9},
	{row(9, 255, 128), api.ErrRange, 9},
	{row(9, 255, 129), api.ErrRange, 9},
	{row(9, 128, 128, 0), api.ErrRange, 9},
	{row(9, 128, 128, 1), api.ErrRange, 9},
	{row(9, 128, 129), api.ErrRange, 9},
	{row(10, 255), api.ErrRange, 9},
	{row(5000, 255), api.ErrRange, 9},
}

// edges are the numbers beside each power of 2, and some between them.
func edges() []uint64 {
	all := []uint64{0, math.MaxUint64, 300, 1000, 123456789, 0xaaaaaaaaaaaaaaaa, 0x5555555555555555, 0x0123456789abcdef}
	for bit := range 64 {
		power := uint64(1) << bit
		all = append(all, power-1, power, power+1, power|power>>3)
	}
	return all
}

func wantGot(t *testing.T, b []byte, n uint64, many int, code api.Errno) {
	t.Helper()
	if gotN, gotMany, gotCode := varint.Get(b); gotN != n || gotMany != many || gotCode != code {
		t.Errorf("Get(%v): got %d, %d, %v, want %d, %d, %v", b[:min(12, len(b))], gotN, gotMany, gotCode, n, many, code)
	}
}

func wantRead(t *testing.T, c *cur.Cur, n uint64, at int, fault api.Fault) {
	t.Helper()
	if got := varint.Read(c); got != n || c.At() != at || c.Fault() != fault {
		t.Errorf("Read: got %d, at %d, %v, want %d, at %d, %v", got, c.At(), c.Fault(), n, at, fault)
	}
}

// P2.1: the bytes of numbers, and how many they are.
func TestPutLen(t *testing.T) {
	for _, x := range known {
		if got := varint.Put(x.n); !bytes.Equal(got, x.b) {
			t.Errorf("Put(%d): got %v, want %v", x.n, got, x.b)
		}
		if got := varint.Len(x.n); got != len(x.b) {
			t.Errorf("Len(%d): got %d, want %d", x.n, got, len(x.b))
		}
	}
}

// P2.1: the words of 'the bytes of a number', one by one.
func TestPutByItsWords(t *testing.T) {
	for _, n := range edges() {
		b := varint.Put(n)
		if len(b) != varint.Len(n) || len(b) < 1 || len(b) > 10 {
			t.Fatalf("Put(%d): %d bytes, Len %d", n, len(b), varint.Len(n))
		}
		sum := new(big.Int)
		for i, x := range b {
			if (x >= 128) != (i < len(b)-1) {
				t.Errorf("Put(%d): byte %d is %d of %v", n, i, x, b)
			}
			part := big.NewInt(int64(x % 128))
			sum.Add(sum, part.Lsh(part, uint(7*i)))
		}
		if sum.Cmp(new(big.Int).SetUint64(n)) != 0 {
			t.Errorf("Put(%d): %v holds %v", n, b, sum)
		}
		if len(b) > 1 && b[len(b)-1] == 0 {
			t.Errorf("Put(%d): %v has a byte too many", n, b)
		}
	}
}

// P2.1, R2: each answer is the caller's own.
func TestPutIsNew(t *testing.T) {
	for _, n := range []uint64{0, 5, 300, math.MaxUint64} {
		first := varint.Put(n)
		want := bytes.Clone(first)
		for i := range first {
			first[i] = 99
		}
		if got := varint.Put(n); !bytes.Equal(got, want) {
			t.Errorf("Put(%d): got %v, want %v", n, got, want)
		}
	}
}

// P2.2: a number alone, and with bytes behind it, that are not asked.
func TestGet(t *testing.T) {
	for _, x := range known {
		wantGot(t, x.b, x.n, len(x.b), api.OK)
		for _, behind := range [][]byte{{0}, {1}, {7}, {128}, {255, 255}, {128, 0}, row(12, 255)} {
			wantGot(t, slices.Concat(x.b, behind), x.n, len(x.b), api.OK)
		}
	}
	wantGot(t, []byte{0, 0}, 0, 1, api.OK)
	wantGot(t, []byte{172, 2, 128}, 300, 2, api.OK)
}

// P2.2: what is no number.
func TestGetWrong(t *testing.T) {
	for _, x := range bad {
		wantGot(t, x.b, 0, 0, x.code)
	}
}

// P2.2: the tenth byte, whatever it is.
func TestGetTenth(t *testing.T) {
	for tenth := range 256 {
		b := row(9, 128, byte(tenth))
		switch tenth {
		case 0:
			wantGot(t, b, 0, 0, api.ErrCanon)
		case 1:
			wantGot(t, b, 1<<63, 10, api.OK)
		default:
			wantGot(t, b, 0, 0, api.ErrRange)
		}
	}
}

// P2.2: each beginning of a number's bytes is short, none is asked beyond the length.
func TestGetBeginnings(t *testing.T) {
	for _, x := range known {
		for i := range x.b {
			wantGot(t, x.b[:i], 0, 0, api.ErrShort)
		}
	}
}

// P2.2, R2: what is handed in stays as it is.
func TestGetWritesNothing(t *testing.T) {
	for _, x := range bad {
		b := slices.Concat(x.b, []byte{41, 42})
		before := bytes.Clone(b)
		varint.Get(b[:len(x.b)])
		if !bytes.Equal(b, before) {
			t.Errorf("Get(%v) wrote %v", before, b)
		}
	}
}

// P2.3: numbers one behind the other.
func TestRead(t *testing.T) {
	var all []byte
	for _, x := range known {
		all = append(all, x.b...)
	}
	c, at := cur.New(all), 0
	for _, x := range known {
		at += len(x.b)
		wantRead(t, c, x.n, at, api.Fault{})
	}
	if c.Left() != 0 {
		t.Errorf("%d bytes are left", c.Left())
	}
	wantRead(t, c, 0, at, api.Fault{Code: api.ErrShort, At: at})
}

// P2.3: where faults stand, and how many bytes are taken, at the beginning and further on.
func TestReadWrong(t *testing.T) {
	for _, x := range bad {
		for _, ahead := range []int{0, 1, 4} {
			c := cur.New(slices.Concat(row(ahead, 77), x.b))
			c.Take(ahead)
			taken := x.at + 1
			if x.code == api.ErrShort {
				taken = len(x.b)
			}
			fault := api.Fault{Code: x.code, At: ahead + x.at}
			wantRead(t, c, 0, ahead+taken, fault)
			wantRead(t, c, 0, ahead+taken, fault)
		}
	}
}

// P2.3: behind a fault nothing is taken, and the fault stays.
func TestReadBehindFault(t *testing.T) {
	for _, b := range [][]byte{nil, {0}, {5, 6}, {128, 0}, {128}, row(9, 255, 2)} {
		for _, fault := range []api.Fault{{Code: api.ErrForm, At: 3}, {Code: api.ErrShort, At: 0}, {Code: -1, At: -1}} {
			c := cur.New(b)
			c.Fail(fault.Code, fault.At)
			wantRead(t, c, 0, 0, fault)
			if c.Left() != len(b) {
				t.Errorf("%d of %v are left", c.Left(), b)
			}
		}
	}
}

// P2.3: of a nil Cur.
func TestReadNil(t *testing.T) {
	if got := varint.Read(nil); got != 0 {
		t.Errorf("Read(nil): got %d", got)
	}
}

// P2.3: a read that Try calls stops at what Read notes.
func TestReadInTry(t *testing.T) {
	n, fault := cur.Try([]byte{172, 2, 128, 0, 9}, func(c *cur.Cur) {
		if got := varint.Read(c); got != 300 {
			t.Errorf("Read: got %d", got)
		}
		c.Must()
		varint.Read(c)
		c.Must()
		t.Error("the read goes on")
	})
	if n != 4 || fault != (api.Fault{Code: api.ErrCanon, At: 3}) {
		t.Errorf("Try: got %d, %v", n, fault)
	}
}

// P2.4: signs.
func TestZigZag(t *testing.T) {
	for _, x := range []struct {
		n    int
		zigs uint64
	}{
		{0, 0}, {-1, 1}, {1, 2}, {-2, 3}, {2, 4}, {-3, 5}, {3, 6},
		{63, 126}, {-64, 127}, {64, 128}, {150, 300},
		{1 << 62, 1 << 63}, {-1 << 62, 1<<63 - 1},
		{math.MaxInt - 1, math.MaxUint64 - 3}, {math.MinInt + 1, math.MaxUint64 - 2},
		{math.MaxInt, math.MaxUint64 - 1}, {math.MinInt, math.MaxUint64},
	} {
		if got := varint.Zig(x.n); got != x.zigs {
			t.Errorf("Zig(%d): got %d, want %d", x.n, got, x.zigs)
		}
		if got := varint.Zag(x.zigs); got != x.n {
			t.Errorf("Zag(%d): got %d, want %d", x.zigs, got, x.n)
		}
	}
}

// P2.4: Zig by its words, in numbers without an end.
func TestZigByItsWords(t *testing.T) {
	for _, edge := range edges() {
		n := int(edge)
		want := big.NewInt(2)
		want.Mul(want, big.NewInt(int64(n)))
		if n < 0 {
			want.Neg(want)
			want.Sub(want, big.NewInt(1))
		}
		if got := varint.Zig(n); new(big.Int).SetUint64(got).Cmp(want) != 0 {
			t.Errorf("Zig(%d): got %d, want %v", n, got, want)
		}
	}
}

// P2.5: what is put is got, whatever stands behind.
func TestThereAndBack(t *testing.T) {
	for _, n := range edges() {
		b := varint.Put(n)
		wantGot(t, b, n, len(b), api.OK)
		for _, behind := range []byte{0, 1, 127, 128, 255} {
			wantGot(t, append(bytes.Clone(b), behind), n, len(b), api.OK)
		}
		wantRead(t, cur.New(append(bytes.Clone(b), 9)), n, len(b), api.Fault{})
	}
}

// P2.5: of all rows of up to three bytes, those that are got whole are the bytes of their number, each number once.
func TestOneRowEach(t *testing.T) {
	seen := make([]bool, 1<<21)
	try := func(b []byte) {
		n, many, code := varint.Get(b)
		if code != api.OK || many != len(b) {
			return
		}
		if n >= uint64(len(seen)) || seen[n] {
			t.Fatalf("Get(%v): %d, not for the first time", b, n)
		}
		seen[n] = true
		if !bytes.Equal(varint.Put(n), b) {
			t.Fatalf("Get(%v): %d, which is %v", b, n, varint.Put(n))
		}
	}
	for i := range 1 << 24 {
		b := []byte{byte(i), byte(i >> 8), byte(i >> 16)}
		try(b)
		if b[2] == 0 {
			try(b[:2])
			if b[1] == 0 {
				try(b[:1])
			}
		}
	}
	if slices.Contains(seen, false) {
		t.Error("a number has no row")
	}
}

// P2.5: a greater number has no fewer bytes.
func TestGreaterIsNoShorter(t *testing.T) {
	all := edges()
	slices.Sort(all)
	for i := 1; i < len(all); i++ {
		if varint.Len(all[i-1]) > varint.Len(all[i]) {
			t.Errorf("Len(%d) is above Len(%d)", all[i-1], all[i])
		}
	}
}

// P2.5: Zig and Zag go there and back, of all numbers.
func TestZigZagThereAndBack(t *testing.T) {
	for _, n := range edges() {
		if got := varint.Zig(varint.Zag(n)); got != n {
			t.Errorf("Zig(Zag(%d)): got %d", n, got)
		}
		for _, m := range []int{int(n), -int(n)} {
			if got := varint.Zag(varint.Zig(m)); got != m {
				t.Errorf("Zag(Zig(%d)): got %d", m, got)
			}
		}
	}
}

func FuzzGet(f *testing.F) {
	for _, x := range known {
		f.Add(x.b)
	}
	for _, x := range bad {
		f.Add(x.b)
	}
	f.Fuzz(func(t *testing.T, b []byte) {
		n, many, code := varint.Get(b)
		if code == api.OK && !bytes.Equal(varint.Put(n), b[:many]) {
			t.Errorf("Get(%v): %d, which is %v", b, n, varint.Put(n))
		}
		if code != api.OK && (n != 0 || many != 0) {
			t.Errorf("Get(%v): %d, %d beside %v", b, n, many, code)
		}
		c := cur.New(b)
		if got := varint.Read(c); got != n || c.Fault().Code != code {
			t.Errorf("Read of %v: %d, %v, but Get %d, %v", b, got, c.Fault(), n, code)
		}
	})
}
