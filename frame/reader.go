package frame

import (
	"errors"

	"guilloche/api"
	"guilloche/rlp"
)

// reader reads items, one by one; where one is wrong that is kept, and all behind it is zero.
type reader struct {
	items []string
	err   error
}

// fault is what is wrong with bytes, and its number.
type fault struct {
	what string
	why  api.Errno
}

// Error tells what is wrong.
func (f fault) Error() string { return f.what }

// Unwrap is the number.
func (f fault) Unwrap() error { return f.why }

// read is the thing of a kind of which bytes are the frame.
func read[T any](s string, kind int, each func(*reader) T, put func(T) (string, api.Errno)) (T, api.Errno) {
	var none T
	r := newReader(s)
	if r.number() != kind {
		r.fail("another kind")
	}
	x := each(r)
	if len(r.items) > 0 {
		r.fail("too many items")
	}
	var why api.Errno
	if errors.As(r.err, &why) {
		return none, why
	}
	if again, err := put(x); err != api.OK || again != s {
		return none, api.ErrMalformed
	}
	return x, api.OK
}

// rows are the things of a list, each one a list itself.
func rows[T any](r *reader, each func(*reader) T) []T {
	var all []T
	for _, item := range r.list() {
		row := newReader(item)
		all = append(all, each(row))
		if row.err != nil {
			r.err = row.err
		}
	}
	return all
}

// fill fills places with what is read, one by one.
func fill[T any](next func() T, places ...*T) {
	for _, p := range places {
		*p = next()
	}
}

// newReader reads the one list that bytes should be.
func newReader(s string) *reader {
	r := &reader{}
	list, body, rest, err := rlp.Split(s)
	if err != api.OK || !list || rest != "" {
		r.fail("no list")
		return r
	}
	items, err := rlp.Items(body)
	if r.items = items; err != api.OK {
		r.fail("no items")
	}
	return r
}

// fail keeps what is wrong.
func (r *reader) fail(what string) { r.err = fault{what, api.ErrMalformed} }

// next is the next item.
func (r *reader) next() string {
	if len(r.items) == 0 {
		r.fail("too few items")
		return ""
	}
	item := r.items[0]
	r.items = r.items[1:]
	return item
}

// number is the next item's number.
func (r *reader) number() int {
	// At is told by one more than it is.
	n, err := rlp.GetNum(r.next())
	if err != api.OK || n > most+1 {
		r.fail("no number")
		return 0
	}
	return int(n)
}

// text is the next item's text.
func (r *reader) text() string {
	list, body, _, err := rlp.Split(r.next())
	if err != api.OK || list {
		r.fail("no text")
		return ""
	}
	return body
}

// list are the items of the next one.
func (r *reader) list() []string {
	below := newReader(r.next())
	if below.err != nil {
		r.err = below.err
	}
	return below.items
}

// ask reads what stands behind an ask's kind of frame.
func (r *reader) ask() api.Ask {
	var a api.Ask
	fill(r.number, &a.Kind, &a.Session, &a.Seq, &a.At)
	fill(r.text, &a.Key, &a.To)
	fill(r.number, &a.Limit)
	a.At--
	return a
}

// reply reads what stands behind a reply's kind of frame.
func (r *reader) reply() api.Reply {
	var x api.Reply
	var number, more int
	fill(r.number, &x.Session, &x.Seq, &number, &x.Version)
	x.Err = api.Errno(number)
	fill(r.text, &x.Root)
	x.Entries = rows(r, (*reader).entry)
	fill(r.text, &x.Proof)
	fill(r.number, &more)
	x.More = more == 1
	return x
}

// notice reads what stands behind a notice's kind of frame.
func (r *reader) notice() api.Notice {
	var n api.Notice
	var number int
	fill(r.number, &n.Session, &number, &n.Block)
	n.Err = api.Errno(number)
	fill(r.text, &n.Root)
	n.Changes = rows(r, (*reader).change)
	return n
}

// entry reads an entry.
func (r *reader) entry() api.Entry {
	var e api.Entry
	fill(r.text, &e.Key, &e.Value)
	return e
}

// change reads a change.
func (r *reader) change() api.Change {
	var c api.Change
	var gone int
	fill(r.text, &c.Key, &c.Value)
	fill(r.number, &gone)
	c.Gone = gone == 1
	return c
}
