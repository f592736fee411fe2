package sequencer

import (
	"math"
	"testing"

	"docket/api"
)

// So that no length can be asked for that there is not.
func TestNewRefusesClients(t *testing.T) {
	for _, clients := range []int{math.MinInt, -1, 0, 9, math.MaxInt} {
		s, ok := New(api.Conf{Clients: clients, Queue: 1, Quantum: 1, Room: 8, Replicas: 1})
		if ok || len(s.accounts) != 0 {
			t.Errorf("New with %d clients = %v, %v", clients, s, ok)
		}
	}
}

// Replicas are not the sequencer's: their number is not asked for here.
func TestNewWithoutReplicas(t *testing.T) {
	s, ok := New(api.Conf{Clients: 8, Queue: 1, Quantum: 1, Room: 8})
	if !ok || len(s.accounts) != 8 {
		t.Errorf("New = %v, %v", s, ok)
	}
}

func TestSequencerWithoutClients(t *testing.T) {
	var s Sequencer
	if e := s.Submit(0, 1, "a|a=1", 9); e != api.ErrClient {
		t.Errorf("Submit = %d", e)
	}
	if count, e := s.Fill(); count != 0 || e != api.OK {
		t.Errorf("Fill = %d, %d", count, e)
	}
	if _, e := s.Reply(1); e != api.ErrNone {
		t.Errorf("Reply = %d", e)
	}
}

func TestEpoch(t *testing.T) {
	s, _ := New(api.Conf{Clients: 1, Queue: 1, Quantum: 1, Room: 8})
	for n := 0; n < 5; n++ {
		was := s.Log()
		for _, none := range []int{math.MinInt, -1, n, n + 1, 200, math.MaxInt} {
			if text := s.Epoch(none); text != "" {
				t.Errorf("at %d epochs Epoch(%d) = %q", n, none, text)
			}
		}
		if n%2 == 1 {
			s.Submit(0, n, "a|a=1", n)
		}
		s.Fill()
		if s.Log() != was+s.Epoch(n) || s.Epoch(n) == "" {
			t.Errorf("Epoch(%d) = %q, the log is %q, was %q", n, s.Epoch(n), s.Log(), was)
		}
	}
}

// What has left a queue is not kept in it, nor behind it.
func TestQueueKeepsNothingThatLeft(t *testing.T) {
	a := account{}
	for id := 0; id < 8; id++ {
		a.join(waiting{id: id, text: "a|a+1", cost: 1, deadline: id % 2})
	}
	late := a.takeLate(1)
	if len(late) != 4 || late[0].id != 0 || late[3].id != 6 || len(a.queue) != 4 || a.queue[0].id != 1 {
		t.Fatalf("takeLate = %v, the queue is %v then", late, a.queue)
	}
	was := a.queue
	taken := a.visit(3, 64)
	if len(taken) != 3 || taken[0].id != 1 || len(a.queue) != 1 || a.queue[0].id != 7 || a.credit != 0 {
		t.Fatalf("visit = %v, the queue is %v then", taken, a.queue)
	}
	if &was[3] == &a.queue[0] {
		t.Error("the queue is still the end of what it was")
	}
}

func TestVisitCredit(t *testing.T) {
	for _, c := range []struct{ credit, quantum, room, cost, taken, left int }{
		{0, 3, 8, 3, 1, 0}, {0, 3, 8, 4, 0, 3}, {5, 3, 8, 8, 1, 0}, {5, 3, 7, 8, 0, 8}, {9, 3, 8, 8, 1, 4}, {9, 3, 8, 4, 2, 0}, {5, 2, 0, 1, 0, 7},
	} {
		a := account{credit: c.credit}
		a.join(waiting{id: 1, cost: c.cost})
		a.join(waiting{id: 2, cost: c.cost})
		taken := a.visit(c.quantum, c.room)
		if len(taken) != c.taken || a.credit != c.left {
			t.Errorf("%+v: %d are taken, the credit is %d then", c, len(taken), a.credit)
		}
	}
	empty := account{credit: 9}
	if taken := empty.visit(3, 8); len(taken) != 0 || empty.credit != 0 {
		t.Errorf("of an empty queue %v are taken, the credit is %d then", taken, empty.credit)
	}
}
