package front

import (
	"bytes"
	"slices"

	"roundhouse/api"
)

// Kinds of questions.
const (
	byLive = iota
	byResolve
	byPush
)

// name tells a question from all others: its kind, and the number of a Live, or the Version of a batch.
type name struct{ kind, number int }

// asker: who has asked something, and with which number.
type asker struct{ guest, number int }

// question: what was asked of some nodes, and not answered by all of them.
type question struct {
	name
	tell []asker       // who waits for it
	left []api.Message // those that were not answered
}

// ask sends a question, and keeps it till all have answered.
func (f *Front) ask(q question) []api.Message {
	f.asked = append(f.asked, q)
	return fresh(q.left)
}

// again: what was asked and is not answered.
func (f *Front) again() []api.Message {
	var out []api.Message
	for _, q := range f.asked {
		out = append(out, fresh(q.left)...)
	}
	return out
}

// waits: at which place is the question of this name, which a node has not answered? Below 0, if there is none.
func (f *Front) waits(n name, node int) int {
	return slices.IndexFunc(f.asked, func(q question) bool {
		return q.name == n && slices.ContainsFunc(q.left, isTo(node))
	})
}

// hear: a node has answered the question at a place. Only if all have, now: who waits for that, and true.
func (f *Front) hear(i, node int) ([]asker, bool) {
	f.stuck = 0
	q := &f.asked[i]
	q.left = slices.DeleteFunc(q.left, isTo(node))
	if len(q.left) > 0 {
		return nil, false
	}
	tell := q.tell
	f.asked = slices.Delete(f.asked, i, i+1)
	return tell, true
}

// isTo: asks messages whether they are to a node.
func isTo(node int) func(m api.Message) bool {
	return func(m api.Message) bool { return m.To == node }
}

// fresh: the same messages in memory of their own, each.
func fresh(list []api.Message) []api.Message {
	var out []api.Message
	for _, m := range list {
		m.Body = bytes.Clone(m.Body)
		out = append(out, m)
	}
	return out
}
