package cur_test

import (
	"bytes"
	"math"
	"testing"

	"forebay/api"
	"forebay/cur"
)

var noFault = api.Fault{}

func wantFault(t *testing.T, c *cur.Cur, code api.Errno, at int) {
	t.Helper()
	if got, want := c.Fault(), (api.Fault{Code: code, At: at}); got != want {
		t.Errorf("Fault: got %v, want %v", got, want)
	}
}

func wantPlace(t *testing.T, c *cur.Cur, at, left int) {
	t.Helper()
	if c.At() != at || c.Left() != left {
		t.Errorf("At, Left: got %d, %d, want %d, %d", c.At(), c.Left(), at, left)
	}
}

func wantPeek(t *testing.T, c *cur.Cur, b byte, is bool) {
	t.Helper()
	if gotB, gotIs := c.Peek(); gotB != b || gotIs != is {
		t.Errorf("Peek: got %d, %v, want %d, %v", gotB, gotIs, b, is)
	}
}

func wantByte(t *testing.T, c *cur.Cur, b byte) {
	t.Helper()
	if got := c.Byte(); got != b {
		t.Errorf("Byte: got %d, want %d", got, b)
	}
}

func wantTake(t *testing.T, c *cur.Cur, n int, want ...byte) {
	t.Helper()
	if got := c.Take(n); !bytes.Equal(got, want) {
		t.Errorf("Take(%d): got %v, want %v", n, got, want)
	}
}

func wantUntil(t *testing.T, c *cur.Cur, end byte, is bool, want ...byte) {
	t.Helper()
	if got, gotIs := c.Until(end); !bytes.Equal(got, want) || gotIs != is {
		t.Errorf("Until(%d): got %v, %v, want %v, %v", end, got, gotIs, want, is)
	}
}

// wantNothing asks for all that takes, of a Cur that may answer nothing any more.
func wantNothing(t *testing.T, c *cur.Cur) {
	t.Helper()
	wantByte(t, c, 0)
	wantPeek(t, c, 0, false)
	for _, n := range []int{math.MinInt, -1, 0, 1, math.MaxInt} {
		wantTake(t, c, n)
	}
	wantUntil(t, c, 0, false)
	wantUntil(t, c, 2, false)
}

// P1.1: a new Cur, its places.
func TestNew(t *testing.T) {
	for _, b := range [][]byte{nil, {}, {7}, {1, 2, 3}, make([]byte, 5000)} {
		c := cur.New(b)
		if c == nil {
			t.Fatal("New: nil")
		}
		wantPlace(t, c, 0, len(b))
		wantFault(t, c, api.OK, 0)
	}
	c := cur.New([]byte{1, 2, 3, 4})
	c.Byte()
	wantPlace(t, c, 1, 3)
	c.Take(2)
	wantPlace(t, c, 3, 1)
	c.Peek()
	wantPlace(t, c, 3, 1)
	c.Until(9)
	wantPlace(t, c, 4, 0)
}

// P1.1: the bytes are the Cur's own.
func TestNewKeepsNothing(t *testing.T) {
	b := []byte{1, 2, 3}
	c := cur.New(b)
	b[0] = 9
	wantByte(t, c, 1)
	cur.Try(b, func(c *cur.Cur) {
		b[1] = 8
		wantTake(t, c, 3, 9, 2, 3)
	})
}

// P1.1: any code is noted at any place, but api.OK.
func TestFail(t *testing.T) {
	for _, code := range []api.Errno{api.ErrArg, api.ErrNil, api.ErrTail, -1, 31, math.MaxInt, math.MinInt} {
		for _, at := range []int{0, 1, 3, 4, -1, math.MaxInt, math.MinInt} {
			c := cur.New([]byte{1, 2, 3})
			c.Fail(code, at)
			wantFault(t, c, code, at)
			wantPlace(t, c, 0, 3)
		}
	}
	c := cur.New([]byte{1, 2, 3})
	c.Fail(api.OK, 2)
	wantFault(t, c, api.OK, 0)
	wantByte(t, c, 1)
	c.Fail(api.ErrForm, 0)
	c.Fail(api.OK, 2)
	wantFault(t, c, api.ErrForm, 0)
}

// P1.1, P1.2, P1.3: what a nil Cur tells.
func TestNil(t *testing.T) {
	var c *cur.Cur
	wantPlace(t, c, 0, 0)
	wantFault(t, c, api.ErrNil, 0)
	c.Fail(api.ErrForm, 3)
	wantFault(t, c, api.ErrNil, 0)
	wantNothing(t, c)
	c.Must()
	reached := false
	n, f := cur.Try([]byte{1}, func(d *cur.Cur) {
		c.Must()
		reached = true
	})
	if n != 0 || f != noFault || !reached {
		t.Error(n, f, reached)
	}
}

// P1.2: Byte, up to the end and beyond it.
func TestByte(t *testing.T) {
	c := cur.New([]byte{1, 0, 255})
	for i, want := range []byte{1, 0, 255} {
		wantByte(t, c, want)
		wantPlace(t, c, i+1, 2-i)
		wantFault(t, c, api.OK, 0)
	}
	wantByte(t, c, 0)
	wantFault(t, c, api.ErrShort, 3)
	wantPlace(t, c, 3, 0)
	empty := cur.New(nil)
	wantByte(t, empty, 0)
	wantFault(t, empty, api.ErrShort, 0)
}

// P1.2: Peek takes nothing and notes nothing.
func TestPeek(t *testing.T) {
	c := cur.New([]byte{0, 5})
	wantPeek(t, c, 0, true)
	wantPeek(t, c, 0, true)
	wantPlace(t, c, 0, 2)
	c.Byte()
	wantPeek(t, c, 5, true)
	c.Byte()
	wantPeek(t, c, 0, false)
	wantFault(t, c, api.OK, 0)
	wantPlace(t, c, 2, 0)
}

// P1.2: Take of as many as are there, of none, of too many, of fewer than none.
func TestTake(t *testing.T) {
	c := cur.New([]byte{1, 2, 3, 4})
	wantTake(t, c, 0)
	wantPlace(t, c, 0, 4)
	wantTake(t, c, 3, 1, 2, 3)
	wantPlace(t, c, 3, 1)
	wantTake(t, c, 1, 4)
	wantTake(t, c, 0)
	wantPlace(t, c, 4, 0)
	wantFault(t, c, api.OK, 0)
	for _, n := range []int{4, 5, math.MaxInt} {
		short := cur.New([]byte{1, 2, 3, 4})
		short.Byte()
		wantTake(t, short, n)
		wantFault(t, short, api.ErrShort, 4)
		wantPlace(t, short, 1, 3)
	}
	for _, n := range []int{-1, -4, math.MinInt} {
		below := cur.New([]byte{1, 2, 3, 4})
		below.Take(2)
		wantTake(t, below, n)
		wantFault(t, below, api.ErrArg, 2)
		wantPlace(t, below, 2, 2)
	}
	empty := cur.New(nil)
	wantTake(t, empty, -1)
	wantFault(t, empty, api.ErrArg, 0)
}

// P1.2: Until with an end, at once, behind, and without one.
func TestUntil(t *testing.T) {
	c := cur.New([]byte{1, 2, 9, 9, 3, 9, 4, 0})
	wantUntil(t, c, 9, true, 1, 2)
	wantPlace(t, c, 3, 5)
	wantUntil(t, c, 9, true)
	wantPlace(t, c, 4, 4)
	wantUntil(t, c, 9, true, 3)
	wantPlace(t, c, 6, 2)
	wantUntil(t, c, 9, false, 4, 0)
	wantPlace(t, c, 8, 0)
	wantUntil(t, c, 9, false)
	wantUntil(t, c, 0, false)
	wantFault(t, c, api.OK, 0)
	last := cur.New([]byte{1, 0})
	wantUntil(t, last, 0, true, 1)
	wantPlace(t, last, 2, 0)
	behind := cur.New([]byte{9, 1})
	behind.Byte()
	wantUntil(t, behind, 9, false, 1)
}

// P1.2 and rule R2: what is answered shares nothing with what is left, with another answer, or with the argument.
func TestAnswersAreOwn(t *testing.T) {
	b := []byte{1, 2, 3, 4, 5, 6}
	c := cur.New(b)
	taken := c.Take(2)
	until, _ := c.Until(4)
	rest, _ := c.Until(4)
	for _, l := range [][]byte{taken, until, rest} {
		for i := range l {
			l[i] = 77
		}
		_ = append(l, 78, 79, 80)
	}
	if !bytes.Equal(b, []byte{1, 2, 3, 4, 5, 6}) {
		t.Error(b)
	}
	d := cur.New(b)
	part := d.Take(2)
	_ = append(part, 50, 51)
	part[0] = 52
	wantTake(t, d, 4, 3, 4, 5, 6)
}

// Behind every kind of first fault the Cur tells nothing, and stays as it is.
func TestFirstFaultStays(t *testing.T) {
	wrong := map[string]func(c *cur.Cur){
		"noted":  func(c *cur.Cur) { c.Fail(api.ErrSum, -7) },
		"short":  func(c *cur.Cur) { c.Take(3) },
		"below":  func(c *cur.Cur) { c.Take(-1) },
		"at end": func(c *cur.Cur) { c.Until(9); c.Byte() },
	}
	for name, do := range wrong {
		t.Run(name, func(t *testing.T) {
			c := cur.New([]byte{1, 2, 3})
			c.Byte()
			do(c)
			fault, at, left := c.Fault(), c.At(), c.Left()
			if fault == noFault || at+left != 3 {
				t.Fatal(fault, at, left)
			}
			wantNothing(t, c)
			c.Fail(api.ErrForm, 1)
			c.Must()
			wantFault(t, c, fault.Code, fault.At)
			wantPlace(t, c, at, left)
		})
	}
}

// P1.4: bytes in parts are those that are taken at once; At and Left together are all.
func TestParts(t *testing.T) {
	b := make([]byte, 300)
	for i := range b {
		b[i] = byte(i * 7)
	}
	for step := 1; step <= 40; step++ {
		c := cur.New(b)
		var got []byte
		for turn := 0; c.Left() > 0; turn++ {
			switch turn % 3 {
			case 0:
				got = append(got, c.Take(min(step, c.Left()))...)
			case 1:
				got = append(got, c.Byte())
			default:
				end := byte(step)
				part, is := c.Until(end)
				got = append(got, part...)
				if is {
					got = append(got, end)
				}
			}
			if c.At()+c.Left() != len(b) || c.At() != len(got) {
				t.Fatal(step, c.At(), c.Left(), len(got))
			}
		}
		if !bytes.Equal(got, b) || c.Fault() != noFault {
			t.Error(step, got, c.Fault())
		}
	}
	wantTake(t, cur.New(b), len(b), b...)
}

// P1.3: a read that ends by itself, with and without a fault.
func TestTryWithoutStop(t *testing.T) {
	calls := 0
	n, f := cur.Try([]byte{1, 2, 3}, func(c *cur.Cur) {
		calls++
		wantPlace(t, c, 0, 3)
		c.Must()
		wantTake(t, c, 2, 1, 2)
		c.Must()
	})
	if n != 2 || f != noFault || calls != 1 {
		t.Error(n, f, calls)
	}
	behind := false
	n, f = cur.Try([]byte{1, 2, 3}, func(c *cur.Cur) {
		c.Byte()
		c.Fail(api.ErrName, 40)
		behind = true
	})
	if n != 1 || f != (api.Fault{Code: api.ErrName, At: 40}) || !behind {
		t.Error(n, f, behind)
	}
	if n, f := cur.Try(nil, func(c *cur.Cur) { c.Byte() }); n != 0 || f != (api.Fault{Code: api.ErrShort}) {
		t.Error(n, f)
	}
	if n, f := cur.Try([]byte{1}, nil); n != 0 || f != (api.Fault{Code: api.ErrNil}) {
		t.Error(n, f)
	}
}

// P1.3: Must stops right there, from any depth of calls.
func TestMustStops(t *testing.T) {
	var deep func(c *cur.Cur, n int)
	deep = func(c *cur.Cur, n int) {
		if n == 0 {
			c.Must()
		} else {
			deep(c, n-1)
		}
		t.Error("behind a Must")
	}
	for _, depth := range []int{0, 1, 100} {
		calls := 0
		n, f := cur.Try([]byte{1, 2, 3}, func(c *cur.Cur) {
			calls++
			c.Byte()
			c.Fail(api.ErrForm, 0)
			deep(c, depth)
		})
		if n != 1 || f != (api.Fault{Code: api.ErrForm}) || calls != 1 {
			t.Error(n, f, calls)
		}
	}
}

// P1.3: a Must in what a read deferred stops nothing more, and goes out no further.
func TestMustWhileStopping(t *testing.T) {
	deferred := 0
	n, f := cur.Try([]byte{1, 2, 3}, func(c *cur.Cur) {
		defer func() { deferred++ }()
		defer c.Must()
		defer func() {
			deferred++
			c.Must()
		}()
		c.Take(4)
		c.Must()
	})
	if n != 0 || f != (api.Fault{Code: api.ErrShort, At: 3}) || deferred != 2 {
		t.Error(n, f, deferred)
	}
}

// P1.3: Must of a Cur that no Try handed, of a copy, and of one whose Try has answered.
func TestMustOfAnother(t *testing.T) {
	loose := cur.New(nil)
	loose.Byte()
	loose.Must()
	var kept, stopped *cur.Cur
	var saved cur.Cur
	cur.Try([]byte{1}, func(c *cur.Cur) {
		kept = c
		loose.Must()
		c.Fail(api.ErrForm, 1)
		saved = *c
		saved.Must()
	})
	kept.Must()
	wantFault(t, kept, api.ErrForm, 1)
	cur.Try([]byte{1}, func(c *cur.Cur) {
		stopped = c
		c.Take(2)
		c.Must()
	})
	stopped.Must()
	reached := false
	n, f := cur.Try([]byte{5, 6}, func(c *cur.Cur) {
		c.Byte()
		kept.Must()
		stopped.Must()
		loose.Must()
		saved.Must()
		reached = true
	})
	if n != 1 || f != noFault || !reached {
		t.Error(n, f, reached)
	}
	*kept = saved
	kept.Must()
}

// P1.3: a fault behind a Try's answer does not make its Cur stop anything.
func TestFaultBehindTry(t *testing.T) {
	var kept *cur.Cur
	if n, f := cur.Try([]byte{1, 2}, func(c *cur.Cur) { kept = c; c.Byte() }); n != 1 || f != noFault {
		t.Error(n, f)
	}
	wantByte(t, kept, 2)
	wantByte(t, kept, 0)
	wantFault(t, kept, api.ErrShort, 2)
	kept.Must()
}

// P1.3: a Must of the inner Cur stops the inner read alone.
func TestInnerStop(t *testing.T) {
	behind := false
	n, f := cur.Try([]byte{1, 2}, func(c *cur.Cur) {
		c.Byte()
		m, g := cur.Try([]byte{3}, func(d *cur.Cur) {
			d.Take(9)
			c.Must()
			d.Must()
			t.Error("behind the inner Must")
		})
		if m != 0 || g != (api.Fault{Code: api.ErrShort, At: 1}) {
			t.Error(m, g)
		}
		c.Must()
		c.Byte()
		behind = true
	})
	if n != 2 || f != noFault || !behind {
		t.Error(n, f, behind)
	}
}

// P1.3: a Must of the outer Cur stops both, and ends both Trys.
func TestOuterStop(t *testing.T) {
	var inner *cur.Cur
	n, f := cur.Try([]byte{1, 2}, func(c *cur.Cur) {
		c.Byte()
		cur.Try([]byte{3, 4}, func(d *cur.Cur) {
			inner = d
			d.Fail(api.ErrTag, 6)
			c.Fail(api.ErrTime, 5)
			c.Must()
			t.Error("behind in the inner read")
		})
		t.Error("behind in the outer read")
	})
	if n != 1 || f != (api.Fault{Code: api.ErrTime, At: 5}) {
		t.Error(n, f)
	}
	wantFault(t, inner, api.ErrTag, 6)
	inner.Must()
}

// P1.3: of many Trys in one another just those inside the one that is stopped end early.
func TestMiddleStop(t *testing.T) {
	const depth = 200
	for _, stop := range []int{0, 1, depth / 2, depth - 1} {
		curs := make([]*cur.Cur, 0, depth)
		behind := 0
		var nest func(c *cur.Cur)
		nest = func(c *cur.Cur) {
			curs = append(curs, c)
			if len(curs) == depth {
				curs[stop].Fail(api.ErrRef, stop)
				curs[stop].Must()
				t.Error("behind the Must")
			}
			cur.Try(nil, nest)
			behind++
		}
		cur.Try(nil, nest)
		if behind != stop {
			t.Errorf("stop %d: %d reads went on", stop, behind)
		}
		for i, c := range curs {
			if wrong := c.Fault() != noFault; wrong != (i == stop) {
				t.Error(stop, i, c.Fault())
			}
			c.Fail(api.ErrForm, 0)
			c.Must()
		}
	}
}

// The chapter's examples.
func TestExamples(t *testing.T) {
	c := cur.New([]byte{1, 2, 3})
	wantByte(t, c, 1)
	wantUntil(t, c, 3, true, 2)
	wantByte(t, c, 0)
	wantFault(t, c, api.ErrShort, 3)
	n, f := cur.Try([]byte{1, 2, 3}, func(c *cur.Cur) {
		c.Byte()
		c.Fail(api.ErrForm, 0)
		c.Must()
		t.Error("behind")
	})
	if n != 1 || f != (api.Fault{Code: api.ErrForm}) {
		t.Error(n, f)
	}
}
