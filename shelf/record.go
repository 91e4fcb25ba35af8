package shelf

import (
	"roundhouse/api"
	"roundhouse/code"
	"roundhouse/past"
	"roundhouse/span"
)

// write: what keys were at a version, as a record. These numbers and texts have bytes, so there is no error to tell.
func write(version int, pairs []api.Pair) []byte {
	out, _ := code.Nums(version, len(pairs))
	for _, p := range pairs {
		key, _ := code.PutText(nil, p.Key)
		value, _ := code.PutText(nil, p.Value)
		out = append(append(out, key...), value...)
	}
	return out
}

// read: what keys of a span were, as a record tells it.
func read(record []byte, s api.Span) (*past.Past, api.Errno) {
	version, rest, e := cut(record, code.Num)
	if e != api.OK {
		return nil, e
	}
	many, rest, e := cut(rest, code.Num)
	if e != api.OK {
		return nil, e
	}
	var pairs []api.Pair
	for range many {
		var p api.Pair
		if p, rest, e = cutPair(rest); e != api.OK {
			return nil, e
		}
		if !span.Has(s, p.Key) {
			return nil, api.ErrRange
		}
		pairs = append(pairs, p)
	}
	if len(rest) > 0 {
		return nil, api.ErrForm
	}
	return past.From(version, pairs)
}

// cutPair: the pair that bytes begin with, and the bytes behind it.
func cutPair(b []byte) (p api.Pair, rest []byte, e api.Errno) {
	if p.Key, rest, e = cut(b, code.Text); e == api.OK {
		p.Value, rest, e = cut(rest, code.Text)
	}
	return p, rest, e
}

// cut: what bytes begin with, and the bytes behind it.
func cut[T any](b []byte, first func(b []byte) (T, int, api.Errno)) (x T, rest []byte, e api.Errno) {
	x, used, e := first(b)
	return x, b[used:], e
}
