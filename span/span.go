// Package span reckons with spans of keys.
package span

import (
	"cmp"
	"slices"

	"roundhouse/api"
)

// Empty: has a span no key?
func Empty(s api.Span) bool { return s.From >= s.To }

// Has: is a key in a span?
func Has(s api.Span, key string) bool { return s.From <= key && key < s.To }

// Next: the least key behind a key.
func Next(key string) string { return key + "\x00" }

// Behind: the least key behind all that begin with a text.
func Behind(prefix string) (string, api.Errno) {
	for i := len(prefix) - 1; i >= 0; i-- {
		// No byte is above 255, so whatever has one there has to be passed at a byte ahead of it.
		if prefix[i] < 255 {
			return prefix[:i] + string([]byte{prefix[i] + 1}), api.OK
		}
	}
	return "", api.ErrNone
}

// Meet: the keys that are in both.
func Meet(a, b api.Span) api.Span {
	both := api.Span{From: max(a.From, b.From), To: min(a.To, b.To)}
	if Empty(both) {
		return api.Span{}
	}
	return both
}

// Join: the spans that have the keys of all.
func Join(list ...api.Span) []api.Span {
	var out []api.Span
	add := func(s api.Span) {
		last := len(out) - 1
		// No key lies between spans that touch: they are one, too.
		if last >= 0 && s.From <= out[last].To {
			out[last].To = max(out[last].To, s.To)
			return
		}
		out = append(out, s)
	}
	for _, s := range rising(list...) {
		add(s)
	}
	return out
}

// Without: the spans that have the keys of one, but for those of others.
func Without(s api.Span, list ...api.Span) []api.Span {
	var out []api.Span
	from := s.From
	keep := func(to string) {
		if rest := (api.Span{From: from, To: min(to, s.To)}); !Empty(rest) {
			out = append(out, rest)
		}
	}
	for _, gone := range Join(list...) {
		keep(gone.From)
		from = max(from, gone.To)
	}
	keep(s.To)
	return out
}

// rising: those of list that have keys, by rising Froms, in memory of their own.
func rising(list ...api.Span) []api.Span {
	var out []api.Span
	for _, s := range list {
		// An inverted span would cut or stretch those beside it.
		if !Empty(s) {
			out = append(out, s)
		}
	}
	slices.SortFunc(out, func(a, b api.Span) int { return cmp.Compare(a.From, b.From) })
	return out
}
