package docket_test

import (
	"math"
	"testing"

	"docket/api"
	"docket/docket"
)

func TestLogGrowsEpochByEpoch(t *testing.T) {
	c := newCluster(t, api.Conf{Clients: 1, Queue: 1, Quantum: 1, Room: 8, Replicas: 1})
	want := ""
	for n := 0; n < 200; n++ {
		var records []api.Record
		if n%3 == 1 {
			records = append(records, record(0, n, 1))
			hand(t, c, records...)
		}
		if log := c.Log(); log != want {
			t.Fatalf("P9: ahead of epoch %d the log is %q, want %q", n, log, want)
		}
		fillTimes(t, c, 1)
		frame, _ := expectedFrame(n, records)
		want += frame
		if log := c.Log(); log != want {
			t.Fatalf("P9: behind epoch %d the log is %q, want %q", n, log, want)
		}
		if count, size := docket.Scan(want); count != n+1 || size != len(want) {
			t.Fatalf("P9: Scan of the log of %d epochs = %d, %d", n+1, count, size)
		}
	}
}

// What a log was told as stays as it is, when the log grows.
func TestLogOnceToldStays(t *testing.T) {
	c := newCluster(t, confOf(greatest))
	hand(t, c, record(0, 1, 1))
	fillTimes(t, c, 1)
	first := c.Log()
	copied := string([]byte(first))
	hand(t, c, record(0, 2, 1))
	fillTimes(t, c, 5)
	if first != copied || c.Log()[:len(first)] != first {
		t.Errorf("P9: the log was %q, and then begins with %q", copied, c.Log()[:len(first)])
	}
}

func TestReplyToNumbersThatWereNotTakenIn(t *testing.T) {
	c := newCluster(t, confOf(greatest))
	none := []int{-1, 0, 2, 999998, 1000000, 1<<32 + 1, math.MinInt, math.MaxInt}
	wantNoReply(t, c, none...)
	wantNoReply(t, c, 1, 999999)
	hand(t, c, record(0, 1, 1), record(7, 999999, 1))
	wantNoReply(t, c, none...)
	wantReply(t, c, 1, api.Waiting, 0)
	wantReply(t, c, 999999, api.Waiting, 0)
	fillTimes(t, c, 1)
	wantNoReply(t, c, none...)
	wantReply(t, c, 1, api.Done, 0)
	wantReply(t, c, 999999, api.Done, 0)
}

// A reply tells the epoch in which it stands, and goes on telling it.
func TestReplyTellsTheEpoch(t *testing.T) {
	c := newCluster(t, api.Conf{Clients: 2, Queue: 8, Quantum: 8, Room: 8, Replicas: 1})
	for n := 0; n < 200; n++ {
		wantSubmit(t, c, n%2, 4*n, "a|a+1", n, api.OK)
		wantSubmit(t, c, n%2, 4*n+1, "a|a~0", n, api.OK)
		wantSubmit(t, c, n%2, 4*n+2, ofCost(8), n, api.OK)
		wantReply(t, c, 4*n, api.Waiting, 0)
		fillTimes(t, c, 1)
	}
	for n := 0; n < 200; n++ {
		wantReply(t, c, 4*n, api.Done, n)
		wantReply(t, c, 4*n+1, api.Aborted, n)
		if n < 199 {
			wantReply(t, c, 4*n+2, api.Expired, n+1)
		}
		wantNoReply(t, c, 4*n+3)
	}
	wantReply(t, c, 4*199+2, api.Waiting, 0)
}

// As many as a cluster can ever take in: 64 in each epoch, and 64 that wait.
func TestReplyToAsManyAsThereCanBe(t *testing.T) {
	c := newCluster(t, confOf(greatest))
	for n := 0; n <= 200; n++ {
		for i := 0; i < 64; i++ {
			if e := c.Submit(i/8, 4999*n+i, "a|a+1", far); e != api.OK {
				t.Fatalf("P7: the transaction %d of epoch %d: %d", i, n, e)
			}
		}
		if e := c.Submit(7, 0, "a|a+1", far); e != api.ErrTwice {
			t.Fatalf("P7: the number 0 once more: %d", e)
		}
		count, e := c.Fill()
		if n < 200 && (count != 64 || e != api.OK) {
			t.Fatalf("P8: epoch %d: %d, %d", n, count, e)
		}
	}
	for n := 0; n < 200; n++ {
		wantReply(t, c, 4999*n, api.Done, n)
		wantReply(t, c, 4999*n+63, api.Done, n)
		wantNoReply(t, c, 4999*n+64)
	}
	wantReply(t, c, 4999*200, api.Waiting, 0)
}
