package chest

import (
	"slices"

	"roundhouse/api"
	"roundhouse/code"
	"roundhouse/frame"
)

// Kinds of records.
const (
	locked = iota + 1 // the lock is its epoch
	laid              // its epoch's log begins, with a base and batches
	pushed            // that log has a batch more
	popped            // that log's batches up to a base are gone
)

// record: one of the book.
type record struct {
	kind, epoch, base, known int
	list                     []api.Batch
}

// log: what there is of an epoch.
type log struct {
	first record // by which it was laid: batches that are gone still tell what it was laid with
	base  int    // what was popped last, or else where it was laid
	known int
	list  []api.Batch
}

// bytes: a record as it stands in the book. It has only what is sound, of which no layer has an error to tell.
func (r record) bytes() []byte {
	head, _ := code.Nums(r.kind, r.epoch, r.base, r.known)
	out, _ := code.PutText(nil, string(head))
	for _, b := range r.list {
		body, _ := frame.PutBatch(b)
		text, _ := code.PutText(nil, string(body))
		out = append(out, text...)
	}
	return out
}

// read: the record that bytes are, if they are one.
func read(b []byte) (record, bool) {
	head, b, ok := cutText(b)
	nums, e := code.Split(head, 4)
	if !ok || e != api.OK {
		return record{}, false
	}
	r := record{kind: nums[0], epoch: nums[1], base: nums[2], known: nums[3]}
	for len(b) > 0 {
		var body []byte
		if body, b, ok = cutText(b); !ok {
			return record{}, false
		}
		x, e := frame.GetBatch(body)
		if e != api.OK || len(body) > api.MaxLaid {
			return record{}, false
		}
		r.list = append(r.list, x)
	}
	return r, r.whole()
}

// cutText: the text that bytes begin with, and the bytes behind it.
func cutText(b []byte) (text, rest []byte, ok bool) {
	s, used, e := code.Text(b)
	return []byte(s), b[used:], e == api.OK
}

// whole: has it what its kind tells, and nothing else?
func (r record) whole() bool {
	if r.epoch < 1 {
		return false
	}
	switch r.kind {
	case locked:
		return r.base == 0 && r.known == 0 && len(r.list) == 0
	case laid:
		return r.known == 0
	case pushed:
		return r.base == 0 && r.known == 0 && len(r.list) == 1
	case popped:
		return len(r.list) == 0
	}
	return false
}

// begin: the log that a record lays, if its batches are those of one.
func begin(r record) (log, bool) {
	return log{first: r, base: r.base}.with(r.list...)
}

// with: the log with more batches, if they may be there.
func (l log) with(list ...api.Batch) (log, bool) {
	for _, b := range list {
		if b.Prev != l.top() || b.Version <= l.top() || len(l.list) >= api.MaxHeld {
			return log{}, false
		}
		l.list = append(l.list, b)
		l.known = max(l.known, b.Known)
	}
	return l, true
}

// since: the log of which all up to a base is gone, with so much known, if that may be.
func (l log) since(base, known int) (log, bool) {
	if base <= l.base || known < l.known {
		return log{}, false
	}
	return log{first: l.first, base: base, known: known}.with(l.behind(base)...)
}

// top: the Version of the last batch, or what was ahead of all.
func (l log) top() int { return last(l.base, l.list) }

// last: the Version of the last one of some batches behind a base.
func last(base int, list []api.Batch) int {
	if len(list) == 0 {
		return base
	}
	return list[len(list)-1].Version
}

// behind: the batches behind a version.
func (l log) behind(version int) []api.Batch {
	i := slices.IndexFunc(l.list, func(b api.Batch) bool { return b.Version > version })
	if i < 0 {
		return nil
	}
	return l.list[i:]
}

// records: those that lay a log as it is now.
func (l log) records() [][]byte {
	out := [][]byte{l.first.bytes()}
	epoch := l.first.epoch
	if l.base > l.first.base {
		out = append(out, record{kind: popped, epoch: epoch, base: l.base, known: l.known}.bytes())
	}
	for _, b := range l.behind(last(l.first.base, l.first.list)) {
		out = append(out, record{kind: pushed, epoch: epoch, list: []api.Batch{b}}.bytes())
	}
	return out
}
