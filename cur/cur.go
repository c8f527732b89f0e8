// Package cur is layer 1: see shared/doc/01-cur.md.
package cur

import (
	"bytes"

	"forebay/api"
)

// Cur is a place in bytes; what is wrong first stays.
type Cur struct {
	all   []byte
	taken int
	fault api.Fault
	trial *trial
}

// trial is one Try's read, and what a Must of its Cur panics with. It names the Cur, so that a copy of that
// Cur stops nothing, and stands apart from it, so that no copy outlives the read.
type trial struct{ of *Cur }

// New is the beginning of bytes.
func New(b []byte) *Cur { return &Cur{all: bytes.Clone(b)} }

// At is how many bytes were taken.
func (c *Cur) At() int {
	if c == nil {
		return 0
	}
	return c.taken
}

// Left is how many are left.
func (c *Cur) Left() int {
	if c == nil {
		return 0
	}
	return len(c.all) - c.taken
}

// Byte takes a byte.
func (c *Cur) Byte() byte {
	next, is := c.Peek()
	if is {
		c.taken++
	} else {
		c.failShort()
	}
	return next
}

// Peek is the next byte; false: there is none.
func (c *Cur) Peek() (byte, bool) {
	if c.wrong() || c.Left() == 0 {
		return 0, false
	}
	return c.all[c.taken], true
}

// Take takes so many bytes.
func (c *Cur) Take(n int) []byte {
	if c.wrong() {
		return nil
	}
	if n < 0 {
		c.Fail(api.ErrArg, c.taken)
		return nil
	}
	if n > c.Left() {
		c.failShort()
		return nil
	}
	return c.next(n)
}

// Until takes the bytes ahead of one, or all, and that one; whether it was there.
func (c *Cur) Until(end byte) ([]byte, bool) {
	if c.wrong() {
		return nil, false
	}
	n := bytes.IndexByte(c.all[c.taken:], end)
	if n < 0 {
		return c.next(c.Left()), false
	}
	ahead := c.next(n)
	c.taken++
	return ahead, true
}

// Fail notes what is wrong, at a byte.
func (c *Cur) Fail(code api.Errno, at int) {
	if c.wrong() || code == api.OK {
		return
	}
	c.fault = api.Fault{Code: code, At: at}
}

// Fault is what is wrong.
func (c *Cur) Fault() api.Fault {
	if c == nil {
		return api.Fault{Code: api.ErrNil}
	}
	return c.fault
}

// Try lets a function read; what is wrong then, if it stops, or what it notes.
func Try(b []byte, read func(c *Cur)) (int, api.Fault) {
	if read == nil {
		return 0, api.Fault{Code: api.ErrNil}
	}
	c := New(b)
	c.let(read)
	return c.At(), c.Fault()
}

// Must stops the function that reads, if something is wrong.
func (c *Cur) Must() {
	if c == nil || c.trial == nil || c.trial.of != c || !c.wrong() {
		return
	}
	panic(c.trial)
}

// let is a function of its own so that Try tells what c has also when the read was stopped.
func (c *Cur) let(read func(c *Cur)) {
	mine := &trial{of: c}
	c.trial = mine
	defer func() {
		mine.of = nil
		why := recover()
		if why == nil {
			return
		}
		if stopped, is := why.(*trial); is && stopped == mine {
			return
		}
		panic(why) // an outer Try waits for it
	}()
	read(c)
}

// wrong holds of a nil Cur as well: nothing can be taken of it, nor noted.
func (c *Cur) wrong() bool { return c.Fault().Code != api.OK }

// failShort tells the end of all bytes, where the missing one would have been.
func (c *Cur) failShort() { c.Fail(api.ErrShort, c.At()+c.Left()) }

// next takes bytes that are known to be there; a copy, since the caller may write into it.
func (c *Cur) next(n int) []byte {
	part := bytes.Clone(c.all[c.taken : c.taken+n])
	c.taken += n
	return part
}
