package front

import (
	"roundhouse/api"
	"roundhouse/code"
	"roundhouse/frame"
	"roundhouse/shards"
	"roundhouse/verdict"
)

// commits: transactions, in the order in which they came, and who asked the commit of each.
type commits struct {
	from []asker
	list []api.Txn
}

func (c *commits) add(who asker, t api.Txn) {
	c.from, c.list = append(c.from, who), append(c.list, t)
}

// cut takes the first ones away.
func (c *commits) cut(n int) commits {
	first := commits{c.from[:n], c.list[:n]}
	c.from, c.list = c.from[n:], c.list[n:]
	return first
}

// batch: one that was begun, with the transactions in it.
type batch struct {
	api.Batch
	commits
	said     map[int][]int // the verdicts that each referee gave
	verdicts []int         // those of all of them
}

// commit: a guest asks the commit of a transaction.
func (f *Front) commit(m api.Message) []api.Message {
	who := asker{m.From, m.A}
	last, has := f.lasts[m.From]
	again := has && m.A <= last
	if !again {
		f.lasts[m.From] = m.A
	}
	t, e := frame.GetTxn(m.Body)
	switch {
	case e != api.OK || verdict.Check(t) != api.OK:
		return []api.Message{f.tell(who, api.TooLarge, 0)}
	case again:
		return nil
	}
	f.queue.add(who, t)
	return f.begin()
}

// begin: the next batch, if there is to be one now.
func (f *Front) begin() []api.Message {
	if !f.ticked || f.going != nil || !f.due && len(f.queue.list) == 0 {
		return nil
	}
	step := api.Step
	if f.version == f.state.Recovered {
		step = api.Leap
	}
	// A sum might be above the greatest int.
	if f.version > api.Last-step {
		return f.giveUp()
	}
	in := f.queue.cut(verdict.Fill(f.queue.list))
	f.going = &batch{
		Batch:   api.Batch{Prev: f.version, Version: f.version + step, Known: f.known},
		commits: in,
		said:    map[int][]int{},
	}
	f.version += step
	return f.resolve()
}

// giveUp: no batch begins any more; what has become of transactions is not known, then.
func (f *Front) giveUp() []api.Message {
	var out []api.Message
	for _, who := range f.queue.from {
		out = append(out, f.tell(who, api.Unknown, 0))
	}
	f.queue = commits{}
	return out
}

// resolve: each referee is asked for its verdicts on the batch that was begun.
func (f *Front) resolve() []api.Message {
	b := f.going
	bodies := make([][]byte, len(f.referees))
	for _, t := range b.list {
		// No error: what is not sound was refused, and a piece of what is sound is.
		pieces, _ := shards.Carve(f.bounds, t)
		for i, piece := range pieces {
			text, _ := frame.PutTxn(piece)
			bodies[i], _ = code.PutText(bodies[i], string(text))
		}
	}
	q := question{name: name{byResolve, b.Version}}
	for i, node := range f.referees {
		m := api.Message{Kind: api.Resolve, A: b.Prev, B: b.Version, C: len(b.list), Body: bodies[i]}
		q.left = append(q.left, f.message(node, m))
	}
	return f.ask(q)
}

// judged: a referee gives its verdicts.
func (f *Front) judged(m api.Message) []api.Message {
	i := f.waits(name{byResolve, m.A}, m.From)
	if i < 0 {
		return nil
	}
	b := f.going
	list, e := code.Split(m.Body, len(b.list))
	if e != api.OK || !areVerdicts(list) {
		return nil
	}
	b.said[m.From] = list
	if _, all := f.hear(i, m.From); !all {
		return nil
	}
	return f.push()
}

// areVerdicts: is each number one?
func areVerdicts(list []int) bool {
	_, e := verdict.Both(list)
	return e == api.OK
}

// push: the batch that all have judged goes to all chests.
func (f *Front) push() []api.Message {
	b := f.going
	var lists [][]int
	for _, node := range f.referees {
		lists = append(lists, b.said[node])
	}
	// No error: of each referee there are as many verdicts as transactions, and these are sound, and few enough.
	b.verdicts, _ = verdict.Both(lists...)
	b.Changes, _ = verdict.Pick(b.list, b.verdicts)
	body, _ := frame.PutBatch(b.Batch)
	q := question{name: name{byPush, b.Version}}
	for _, node := range f.state.Chests {
		q.left = append(q.left, f.message(node, api.Message{Kind: api.Push, Body: body}))
	}
	return f.ask(q)
}

// pushed: a chest has all batches up to a version.
func (f *Front) pushed(m api.Message) []api.Message {
	i := f.waits(name{byPush, f.version}, m.From)
	if i < 0 || m.A < f.version {
		return nil
	}
	if _, all := f.hear(i, m.From); !all {
		return nil
	}
	return f.committed()
}

// committed: what was pushed to all stands; all in the batch are told, and the next one begins.
func (f *Front) committed() []api.Message {
	b := f.going
	f.going, f.known, f.due = nil, b.Version, len(b.list) > 0
	var out []api.Message
	for i, who := range b.from {
		out = append(out, f.outcome(who, b.verdicts[i], b.Version))
	}
	return append(out, f.begin()...)
}

// outcome: what is told of a transaction behind its verdict.
func (f *Front) outcome(who asker, v, version int) api.Message {
	switch v {
	case api.Fine:
		return f.tell(who, api.Committed, version)
	case api.Clash:
		return f.tell(who, api.Refused, 0)
	}
	return f.tell(who, api.TooOld, 0)
}
