package sequencer

import (
	"docket/api"
	"docket/epoch"
)

// Fill fills the next epoch, and tells how many records it has.
func (s *Sequencer) Fill() (int, api.Errno) {
	if len(s.epochs) >= api.MaxEpochs {
		return 0, api.ErrMany
	}
	records := s.takeLate()
	visited := s.visitAll()
	records = append(records, visited...)
	s.settle(records)
	// What was taken in can be written: all queues together have no more than MaxRecords.
	text, _ := epoch.Write(len(s.epochs), records)
	s.epochs = append(s.epochs, text)
	return len(records), api.OK
}

func (s *Sequencer) takeLate() []api.Record {
	var records []api.Record
	for i := 0; i < len(s.accounts); i++ {
		late := s.accounts[i].takeLate(len(s.epochs))
		for j := 0; j < len(late); j++ {
			records = append(records, api.Record{Client: i, ID: late[j].id, Expired: true})
		}
	}
	return records
}

// visitAll visits each client once, from the first on.
func (s *Sequencer) visitAll() []api.Record {
	var records []api.Record
	room := s.room
	at := s.first
	for i := 0; i < len(s.accounts); i++ {
		taken := s.accounts[at].visit(s.quantum, room)
		for j := 0; j < len(taken); j++ {
			room -= taken[j].cost
			records = append(records, api.Record{Client: at, ID: taken[j].id, Text: taken[j].text})
		}
		at = s.behind(at)
	}
	s.first = s.behind(s.first)
	return records
}

// behind is the client that is visited behind this one.
func (s *Sequencer) behind(client int) int {
	if client+1 < len(s.accounts) {
		return client + 1
	}
	return 0
}

// settle does the records in their order, and notes what became of each.
func (s *Sequencer) settle(records []api.Record) {
	for i := 0; i < len(records); i++ {
		after, state := epoch.Do(records[i], s.cells)
		s.cells = after
		s.settled = append(s.settled, outcome{id: records[i].ID, reply: api.Reply{State: state, Epoch: len(s.epochs)}})
	}
}
