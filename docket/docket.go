// Package docket: transactions that are put into an order first and done then: see DOC.md.
package docket

import (
	"docket/api"
	"docket/epoch"
	"docket/replica"
	"docket/sequencer"
	"docket/transaction"
)

// Cluster is a sequencer with its clients' queues, the log, and replicas.
type Cluster struct {
	sequencer sequencer.Sequencer
	replicas  []replica.Replica
}

// Apply does a transaction on cells (P3).
func Apply(text string, cells api.Cells) (api.Cells, bool, api.Errno) {
	t, ok := transaction.Parse(text)
	if !ok {
		return cells, false, api.ErrText
	}
	after, done := t.Do(cells)
	return after, done, api.OK
}

// Frame writes an epoch (P4).
func Frame(n int, records []api.Record) (string, api.Errno) {
	text, ok := epoch.Write(n, records)
	if !ok {
		return "", api.ErrRecord
	}
	return text, api.OK
}

// Scan tells how many epochs a log begins with, and how many bytes these are (P5).
func Scan(log string) (int, int) {
	return epoch.Scan(log)
}

// New makes a cluster (P6).
func New(c api.Conf) (*Cluster, api.Errno) {
	if c.Replicas < 1 || c.Replicas > api.MaxReplicas {
		return nil, api.ErrConf
	}
	s, ok := sequencer.New(c)
	if !ok {
		return nil, api.ErrConf
	}
	return &Cluster{sequencer: s, replicas: make([]replica.Replica, c.Replicas)}, api.OK
}

// Submit hands in a transaction (P7).
func (c *Cluster) Submit(client int, id int, text string, deadline int) api.Errno {
	return c.sequencer.Submit(client, id, text, deadline)
}

// Fill fills the next epoch (P8).
func (c *Cluster) Fill() (int, api.Errno) {
	return c.sequencer.Fill()
}

// Log tells all epochs as bytes (P9).
func (c *Cluster) Log() string {
	return c.sequencer.Log()
}

// Reply tells what became of a transaction (P9).
func (c *Cluster) Reply(id int) (api.Reply, api.Errno) {
	return c.sequencer.Reply(id)
}

// Send brings an epoch to a replica (P10).
func (c *Cluster) Send(replica int, n int) api.Errno {
	if !c.hasReplica(replica) {
		return api.ErrReplica
	}
	text := c.sequencer.Epoch(n)
	return c.replicas[replica].Take(n, text)
}

// Sync makes what a replica has safe (P10).
func (c *Cluster) Sync(replica int) api.Errno {
	if !c.hasReplica(replica) {
		return api.ErrReplica
	}
	c.replicas[replica].Sync()
	return api.OK
}

// Crash lets a replica lose what was not safe (P11).
func (c *Cluster) Crash(replica int, keep int) api.Errno {
	if !c.hasReplica(replica) {
		return api.ErrReplica
	}
	c.replicas[replica].Crash(keep)
	return api.OK
}

// Disk tells a replica's bytes (P12).
func (c *Cluster) Disk(replica int) (string, api.Errno) {
	if !c.hasReplica(replica) {
		return "", api.ErrReplica
	}
	return c.replicas[replica].Disk(), api.OK
}

// Count tells how many epochs a replica has (P12).
func (c *Cluster) Count(replica int) (int, api.Errno) {
	if !c.hasReplica(replica) {
		return 0, api.ErrReplica
	}
	return c.replicas[replica].Count(), api.OK
}

// Get tells what a key holds at a replica (P12).
func (c *Cluster) Get(replica int, key string) (int, api.Errno) {
	if !c.hasReplica(replica) {
		return 0, api.ErrReplica
	}
	return c.replicas[replica].Get(key)
}

func (c *Cluster) hasReplica(replica int) bool {
	return replica >= 0 && replica < len(c.replicas)
}
