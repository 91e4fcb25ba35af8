package front

import (
	"math/rand/v2"
	"slices"
	"testing"

	"roundhouse/api"
	"roundhouse/change"
	"roundhouse/chest"
	"roundhouse/code"
	"roundhouse/frame"
	"roundhouse/referee"
	"roundhouse/tape"
)

// whole: a front with chests and referees that are up, and what is on the way between them.
type whole struct {
	t        *testing.T
	pick     *rand.Rand
	f        *Front
	chests   map[int]*chest.Chest
	referees map[int]*referee.Referee
	way      [][]byte
	told     map[[2]int]api.Message // by guests and numbers
	asked    map[[2]int]api.Txn     // the commits, likewise
	floors   map[[2]int]int         // of versions: what was told to be committed ahead of it
	greatest int                    // of all versions that were told
}

func newWhole(t *testing.T, pick *rand.Rand, bounds []string) *whole {
	w := &whole{t: t, pick: pick, chests: map[int]*chest.Chest{}, referees: map[int]*referee.Referee{}, told: map[[2]int]api.Message{}, asked: map[[2]int]api.Txn{}, floors: map[[2]int]int{}, greatest: 7}
	s := api.State{Generation: 1, Epoch: 5, Recovered: 7, Chests: []int{20, 21, 22}}
	for _, n := range s.Chests {
		p, _ := tape.New(api.MaxTape)
		w.chests[n], _ = chest.Open(p)
		if e := w.chests[n].Lay(5, 7); e != api.OK {
			t.Fatal(e)
		}
	}
	list := []int{80, 81, 82}[:len(bounds)+1]
	for _, n := range list {
		w.referees[n] = referee.New()
		w.referees[n].Begin(5, 7)
	}
	w.f, _ = New(60, s, 7, list, bounds)
	return w
}

// send: messages are on the way; some come twice, and some of those that are asked again never.
func (w *whole) send(list ...api.Message) {
	for _, m := range list {
		b, e := frame.Encode(m)
		if e != api.OK {
			w.t.Fatalf("%+v can't be sent: %d", m, e)
		}
		for turn := w.pick.IntN(10); turn < 10; turn += 8 {
			w.way = append(w.way, b)
		}
		if m.Kind != api.Ask && m.Kind != api.Tell && w.pick.IntN(5) == 0 {
			w.way = w.way[:len(w.way)-1]
		}
	}
}

// come: one of those on the way comes.
func (w *whole) come() {
	i := w.pick.IntN(len(w.way))
	m, e := frame.Decode(w.way[i])
	if e != api.OK {
		w.t.Fatal(e)
	}
	w.way = slices.Delete(w.way, i, i+1)
	answer := api.Message{From: m.To, To: m.From, Epoch: m.Epoch, A: m.A}
	switch {
	case m.To == 60:
		w.send(w.f.Take(m)...)
	case m.Kind == api.Tell:
		w.tell(m)
	case m.Kind == api.Live:
		if c := w.chests[m.To]; c != nil && c.Live(m.Epoch) != api.OK {
			return
		}
		if r := w.referees[m.To]; r != nil {
			if epoch, version := r.Ends(); epoch != m.Epoch || version < m.B {
				return
			}
		}
		answer.Kind = api.Alive
		w.send(answer)
	case m.Kind == api.Resolve:
		var list []api.Txn
		for range m.C {
			s, used, _ := code.Text(m.Body)
			x, e := frame.GetTxn([]byte(s))
			if e != api.OK {
				w.t.Fatalf("%x is no transaction", s)
			}
			m.Body, list = m.Body[used:], append(list, x)
		}
		if verdicts, e := w.referees[m.To].Judge(m.Epoch, m.A, m.B, list...); e == api.OK {
			answer.Kind, answer.A = api.Verdict, m.B
			answer.Body, _ = code.Nums(verdicts...)
			w.send(answer)
		} else if e != api.ErrOld {
			w.t.Fatalf("Judge: %d", e)
		}
	case m.Kind == api.Push:
		x, e := frame.GetBatch(m.Body)
		if e != api.OK {
			w.t.Fatalf("%x is no batch", m.Body)
		}
		answer.Kind = api.Pushed
		if answer.A, e = w.chests[m.To].Push(m.Epoch, x); e != api.OK {
			w.t.Fatalf("Push: %d", e)
		}
		w.send(answer)
	}
}

func (w *whole) tell(m api.Message) {
	who := [2]int{m.To, m.A}
	if _, had := w.told[who]; had {
		return
	}
	w.told[who] = m
	if m.B == api.Open && m.C < w.floors[who] {
		w.t.Errorf("%v: %d, but %d was known", who, m.C, w.floors[who])
	}
	w.greatest = max(w.greatest, m.C)
}

// asks: a guest asks a version, or the commit of something.
func (w *whole) asks(number int) {
	guest := 100 + w.pick.IntN(3)
	m := api.Message{Kind: api.Ask, From: guest, To: 60, Epoch: 5, A: number, B: 1 + w.pick.IntN(2)}
	who := [2]int{guest, number}
	if m.B == 1 {
		w.floors[who] = w.greatest
	} else {
		keys := []string{"a", "g", "h", "k", "m", "t"}
		one := func() string { return keys[w.pick.IntN(len(keys))] }
		x := api.Txn{Read: max(0, w.greatest-10*w.pick.IntN(3))}
		for range w.pick.IntN(3) {
			a, b := one(), one()
			x.Reads = append(x.Reads, of(min(a, b), max(a, b)+"\x00"))
		}
		for range w.pick.IntN(3) {
			x.Changes = append(x.Changes, put(one(), "1"))
		}
		w.asked[who] = x
		m.Body, _ = frame.PutTxn(x)
	}
	w.send(m)
}

// log: the batches that a chest has.
func (w *whole) log(n int) []api.Batch {
	list, _, e := w.chests[n].Peek(5, 7, 1000)
	if e != api.OK {
		w.t.Fatal(e)
	}
	return list
}

// holds: was what is Committed written, at its Version, and was nothing written that it had to see?
func (w *whole) holds() {
	log := w.log(20)
	for who, x := range w.asked {
		m, told := w.told[who]
		if !told {
			continue // a later number came ahead of it
		}
		clash := false
		for _, b := range log {
			spans, _ := change.Spans(b.Changes...)
			for _, r := range x.Reads {
				for _, s := range spans {
					_, some := meet(r, s)
					clash = clash || some && b.Version > x.Read && b.Version < m.C
				}
			}
		}
		i := slices.IndexFunc(log, func(b api.Batch) bool { return b.Version == m.C })
		switch {
		case m.B != api.Committed && m.B != api.Refused && m.B != api.TooOld:
			w.t.Errorf("%v: %+v", who, m)
		case m.B == api.Committed && (clash || i < 0 || !contains(log[i].Changes, x.Changes)):
			w.t.Errorf("%v: %+v is Committed at %d, but stands not", who, x, m.C)
		}
	}
}

// contains: does one list have another one, in one piece?
func contains(list, piece []api.Change) bool {
	for i := 0; i+len(piece) <= len(list); i++ {
		if slices.Equal(list[i:i+len(piece)], piece) {
			return true
		}
	}
	return false
}

// With true chests and referees, and messages that are lost, come twice, and in any order.
func TestWhole(t *testing.T) {
	for seed := range uint64(150) {
		pick := rand.New(rand.NewPCG(19, seed))
		w := newWhole(t, pick, [][]string{nil, {"h"}, {"g", "m"}}[seed%3])
		for number := range 100 {
			if v, _ := w.f.Ends(); number < 40 && v < 1107 {
				w.asks(number)
			}
			for range pick.IntN(12 + len(w.way)) {
				if len(w.way) > 0 {
					w.come()
				}
			}
			w.send(w.f.Tick()...)
			if number%50 == 0 {
				w.holds()
			}
		}
		for range 40 {
			for len(w.way) > 0 {
				w.come()
			}
			w.send(w.f.Tick()...)
		}
		for n := range w.chests { // the last batch may stand in some of them alone
			_, known := w.f.Ends()
			stands := func(b api.Batch) bool { return b.Version <= known }
			if one, two := slices.IndexFunc(w.log(n), func(b api.Batch) bool { return !stands(b) }), slices.IndexFunc(w.log(20), func(b api.Batch) bool { return !stands(b) }); one != two || one >= 0 {
				t.Errorf("%d: batches above %d: %d, %d", n, known, one, two)
			}
		}
		w.holds()
		for who := range w.floors {
			if _, told := w.told[who]; !told {
				t.Errorf("%v has no version", who)
			}
		}
	}
}
