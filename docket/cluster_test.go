package docket_test

import (
	"strings"
	"testing"

	"docket/api"
	"docket/docket"
)

func newCluster(t *testing.T, conf api.Conf) *docket.Cluster {
	t.Helper()
	c, e := docket.New(conf)
	if c == nil || e != api.OK {
		t.Fatalf("P6: New(%+v) = %v, %d, want a cluster", conf, c, e)
	}
	return c
}

// far: a deadline that never comes.
const far = 1000

func wantSubmit(t *testing.T, c *docket.Cluster, client int, id int, text string, deadline int, want api.Errno) {
	t.Helper()
	if e := c.Submit(client, id, text, deadline); e != want {
		t.Errorf("P7: Submit(%d, %d, %.70q, %d) = %d, want %d", client, id, text, deadline, e, want)
	}
}

// wantFill: the epoch n is filled with just these records.
func wantFill(t *testing.T, c *docket.Cluster, n int, records ...api.Record) {
	t.Helper()
	before := c.Log()
	count, e := c.Fill()
	if count != len(records) || e != api.OK {
		t.Errorf("P8: Fill of epoch %d = %d, %d, want %d, 0", n, count, e, len(records))
	}
	frame, _ := expectedFrame(n, records)
	after := c.Log()
	if after != before+frame {
		t.Errorf("P8: behind Fill of epoch %d the log is %q, want %q and %q", n, after, before, frame)
	}
}

func wantReply(t *testing.T, c *docket.Cluster, id int, state api.State, n int) {
	t.Helper()
	reply, e := c.Reply(id)
	if reply != (api.Reply{State: state, Epoch: n}) || e != api.OK {
		t.Errorf("P9: Reply(%d) = %v, %d, want {%d %d}, 0", id, reply, e, state, n)
	}
}

func wantNoReply(t *testing.T, c *docket.Cluster, ids ...int) {
	t.Helper()
	for _, id := range ids {
		reply, e := c.Reply(id)
		if reply != (api.Reply{}) || e != api.ErrNone {
			t.Errorf("P9: Reply(%d) = %v, %d, want nothing and %d", id, reply, e, api.ErrNone)
		}
	}
}

// ofCost: a transaction of so many operations, which is always done.
func ofCost(cost int) string {
	return "a|" + strings.TrimSuffix(strings.Repeat("a+1;", cost), ";")
}

// record: one that is done, of this cost.
func record(client int, id int, cost int) api.Record {
	return recordOf(client, id, ofCost(cost))
}

// recordOf: one with this text.
func recordOf(client int, id int, text string) api.Record {
	return api.Record{Client: client, ID: id, Text: text}
}

// gone: one that has expired.
func gone(client int, id int) api.Record {
	return api.Record{Client: client, ID: id, Expired: true}
}

// hand takes these in, with a deadline that never comes.
func hand(t *testing.T, c *docket.Cluster, records ...api.Record) {
	t.Helper()
	for _, r := range records {
		wantSubmit(t, c, r.Client, r.ID, r.Text, far, api.OK)
	}
}

func fillTimes(t *testing.T, c *docket.Cluster, count int) {
	t.Helper()
	for i := 0; i < count; i++ {
		if _, e := c.Fill(); e != api.OK {
			t.Fatalf("P8: Fill = %d", e)
		}
	}
}

// The document's examples 3 and 4.
func TestClusterExample(t *testing.T) {
	exampleCluster(t)
}

// exampleCluster: as it is behind these examples.
func exampleCluster(t *testing.T) *docket.Cluster {
	t.Helper()
	six := "b|b=1;b+1;b+1;b+1;b+1;b+1"
	eight := "a|a=1;a+1;a+1;a+1;a+1;a+1;a+1;a+1"
	c := newCluster(t, api.Conf{Clients: 2, Queue: 2, Quantum: 3, Room: 8, Replicas: 1})
	wantSubmit(t, c, 0, 1, "a|a=1", 9, api.OK)
	wantSubmit(t, c, 0, 1, "a|a=1", 9, api.ErrTwice)
	wantSubmit(t, c, 1, 2, six, 9, api.OK)
	wantSubmit(t, c, 0, 3, "ab|a+b", 0, api.OK)
	wantSubmit(t, c, 0, 4, "a|a=1", 9, api.ErrFull)
	wantSubmit(t, c, 0, 4, "a|a=1", -1, api.ErrLate)
	wantSubmit(t, c, 2, 4, "a|a=1", 9, api.ErrClient)
	wantFill(t, c, 0, recordOf(0, 1, "a|a=1"), recordOf(0, 3, "ab|a+b"))
	wantReply(t, c, 1, api.Done, 0)
	wantReply(t, c, 3, api.Done, 0)
	wantReply(t, c, 2, api.Waiting, 0)
	wantNoReply(t, c, 4)
	wantFill(t, c, 1, recordOf(1, 2, six))
	wantReply(t, c, 2, api.Done, 1)
	wantSubmit(t, c, 0, 5, "a|a=2", 1, api.ErrLate)
	wantSubmit(t, c, 0, 5, "a|a=2;a<2", 2, api.OK)
	wantSubmit(t, c, 0, 6, eight, 2, api.OK)
	wantFill(t, c, 2, recordOf(0, 5, "a|a=2;a<2"))
	wantReply(t, c, 5, api.Aborted, 2)
	wantReply(t, c, 6, api.Waiting, 0)
	wantFill(t, c, 3, gone(0, 6))
	wantReply(t, c, 6, api.Expired, 3)
	return c
}
