// Package sequencer takes transactions in, by queues of its clients, and fills epochs with them, fairly.
package sequencer

import (
	"docket/api"
	"docket/transaction"
)

// Sequencer has its clients' queues, the log, and what became of each transaction. Its fields stay in this package, so that only New makes one that has clients.
type Sequencer struct {
	queue    int
	quantum  int
	room     int
	accounts []account
	// Where the visits of the next epoch begin: below len(accounts), if there are any.
	first int
	// The bytes of each epoch, so that one of them can be told without reading those ahead of it.
	epochs  []string
	cells   api.Cells
	settled []outcome
}

// outcome is what became of a transaction that has left its queue.
type outcome struct {
	id    int
	reply api.Reply
}

// New makes a sequencer; false, if one of its numbers is out of its range.
func New(c api.Conf) (Sequencer, bool) {
	if !isConf(c) {
		return Sequencer{}, false
	}
	return Sequencer{
		queue:    c.Queue,
		quantum:  c.Quantum,
		room:     c.Room,
		accounts: make([]account, c.Clients),
	}, true
}

// isConf does not ask for Replicas: the sequencer has none.
func isConf(c api.Conf) bool {
	if c.Clients < 1 || c.Clients > api.MaxClients {
		return false
	}
	if c.Queue < 1 || c.Queue > api.MaxQueue {
		return false
	}
	if c.Quantum < 1 || c.Quantum > api.MaxQuantum {
		return false
	}
	return c.Room >= api.MinRoom && c.Room <= api.MaxRoom
}

// Submit takes a transaction in, at the end of the client's queue.
func (s *Sequencer) Submit(client int, id int, text string, deadline int) api.Errno {
	if client < 0 || client >= len(s.accounts) {
		return api.ErrClient
	}
	if id < 0 || id > api.MaxID {
		return api.ErrID
	}
	t, ok := transaction.Parse(text)
	if !ok {
		return api.ErrText
	}
	_, e := s.Reply(id)
	if e == api.OK {
		return api.ErrTwice
	}
	if deadline < len(s.epochs) {
		return api.ErrLate
	}
	if len(s.accounts[client].queue) >= s.queue {
		return api.ErrFull
	}
	cost := t.Cost()
	s.accounts[client].join(waiting{id: id, text: text, cost: cost, deadline: deadline})
	return api.OK
}

// Log tells the bytes of all epochs.
func (s *Sequencer) Log() string {
	var log []byte
	for i := 0; i < len(s.epochs); i++ {
		log = append(log, s.epochs[i]...)
	}
	return string(log)
}

// Epoch tells the bytes of the epoch n: none, if there is no such epoch.
func (s *Sequencer) Epoch(n int) string {
	if n < 0 || n >= len(s.epochs) {
		return ""
	}
	return s.epochs[n]
}

// Reply tells what became of a transaction that was taken in.
func (s *Sequencer) Reply(id int) (api.Reply, api.Errno) {
	for i := 0; i < len(s.settled); i++ {
		if s.settled[i].id == id {
			return s.settled[i].reply, api.OK
		}
	}
	for i := 0; i < len(s.accounts); i++ {
		if s.accounts[i].awaits(id) {
			return api.Reply{State: api.Waiting, Epoch: 0}, api.OK
		}
	}
	return api.Reply{}, api.ErrNone
}
