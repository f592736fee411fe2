// Package replica does the epochs that it is brought on cells of its own, may crash, and goes on from what is left on its disk.
package replica

import (
	"docket/api"
	"docket/epoch"
)

// Replica has nothing at first: its zero value is a new one.
type Replica struct {
	// Between two calls the disk has whole epochs alone, from the epoch 0 on.
	disk string
	// How many bytes of the disk, from the front, a crash leaves alone.
	safe  int
	count int
	cells api.Cells
}

// Take lays the epoch n on the disk and does its records; the text is the epoch's bytes, and empty, if there is no such epoch.
func (r *Replica) Take(n int, text string) api.Errno {
	records, _, ok := epoch.Read(n, text)
	if !ok {
		return api.ErrNone
	}
	if n < r.count {
		return api.ErrOld
	}
	if n > r.count {
		return api.ErrGap
	}
	r.disk += text
	r.do(records)
	return api.OK
}

// do takes the records for those of the epoch that comes next: Take and a crash see to that.
func (r *Replica) do(records []api.Record) {
	for i := 0; i < len(records); i++ {
		after, _ := epoch.Do(records[i], r.cells)
		r.cells = after
	}
	r.count++
}

// Sync makes all that is on the disk safe.
func (r *Replica) Sync() {
	r.safe = len(r.disk)
}

// Disk tells the bytes on the disk.
func (r *Replica) Disk() string {
	return r.disk
}

// Count tells how many epochs the replica has.
func (r *Replica) Count() int {
	return r.count
}

// Get tells what a key's cell holds.
func (r *Replica) Get(key string) (int, api.Errno) {
	if len(key) != 1 || key[0] < 'a' || key[0] > 'h' {
		return 0, api.ErrKey
	}
	return int(r.cells[key[0]-'a']), api.OK
}
