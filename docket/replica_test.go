package docket_test

import (
	"math"
	"strings"
	"testing"

	"docket/api"
	"docket/docket"
)

// story: what a told cluster's epochs hold, and the cells behind each of them: the ordinary, one without records, aborted ones, what has expired, and cells that came in again at the other end. Nothing is set to a number ahead of its epoch 4: to do an epoch twice, or on other cells, shows.
var story = []struct {
	records []api.Record
	cells   api.Cells
}{
	{[]api.Record{recordOf(0, 1, "a|a+1")}, api.Cells{1}},
	{[]api.Record{recordOf(1, 2, "b|b+1;b+1;b+1;b+1;b+1;b+1")}, api.Cells{1, 6}},
	{nil, api.Cells{1, 6}},
	{[]api.Record{recordOf(1, 3, "a|a+a"), recordOf(0, 4, "ab|a=9;a~b"), recordOf(0, 5, "a|a=7;b=7")}, api.Cells{2, 6}},
	{[]api.Record{recordOf(0, 6, "c|c=32767;c+1")}, api.Cells{2, 6, -32768}},
	{[]api.Record{gone(0, 7), recordOf(1, 8, "d|d-1")}, api.Cells{2, 6, -32768, -1}},
	{[]api.Record{recordOf(0, 9, "cdefgh|c-1;e=300;e*e;f=-1;g=f;g*g;h-f;h*c")}, api.Cells{2, 6, 32767, -1, 24464, -1, 1, 32767}},
}

// told: a cluster with the epochs of the story, up to so many of them.
func told(t *testing.T, replicas int, count int) *docket.Cluster {
	t.Helper()
	c := newCluster(t, api.Conf{Clients: 2, Queue: 4, Quantum: 8, Room: 8, Replicas: replicas})
	for n := 0; n < count; n++ {
		for _, r := range story[n].records {
			if !r.Expired {
				wantSubmit(t, c, r.Client, r.ID, r.Text, n, api.OK)
			}
		}
		if n == 4 {
			// There is no room for it, and in the next epoch it expires.
			wantSubmit(t, c, 0, 7, "h|h+1;h+1;h+1;h+1;h+1;h+1;h+1;h+1", n, api.OK)
		}
		wantFill(t, c, n, story[n].records...)
	}
	return c
}

// bytesFrom: of the story's epochs from one on up to another, without that.
func bytesFrom(from int, to int) string {
	text := ""
	for n := from; n < to; n++ {
		frame, _ := expectedFrame(n, story[n].records)
		text += frame
	}
	return text
}

// wantHas: a replica of a told cluster has just so many epochs.
func wantHas(t *testing.T, c *docket.Cluster, replica int, count int) {
	t.Helper()
	cells := api.Cells{}
	if count > 0 {
		cells = story[count-1].cells
	}
	wantCells(t, c, replica, cells)
	if got, e := c.Count(replica); got != count || e != api.OK {
		t.Errorf("P12: Count(%d) = %d, %d, want %d, 0", replica, got, e, count)
	}
	want := bytesFrom(0, count)
	if disk, e := c.Disk(replica); disk != want || e != api.OK {
		t.Errorf("P12: Disk(%d) = %q, %d, want %q, 0", replica, disk, e, want)
	}
}

func wantCells(t *testing.T, c *docket.Cluster, replica int, cells api.Cells) {
	t.Helper()
	for i, key := range strings.Split("abcdefgh", "") {
		wantGet(t, c, replica, key, int(cells[i]))
	}
}

func wantGet(t *testing.T, c *docket.Cluster, replica int, key string, want int) {
	t.Helper()
	if cell, e := c.Get(replica, key); cell != want || e != api.OK {
		t.Errorf("P12: Get(%d, %q) = %d, %d, want %d, 0", replica, key, cell, e, want)
	}
}

func wantSend(t *testing.T, c *docket.Cluster, replica int, n int, want api.Errno) {
	t.Helper()
	if e := c.Send(replica, n); e != want {
		t.Errorf("P10: Send(%d, %d) = %d, want %d", replica, n, e, want)
	}
}

// sendUpTo sends the epochs from one on up to another, without that.
func sendUpTo(t *testing.T, c *docket.Cluster, replica int, from int, to int) {
	t.Helper()
	for n := from; n < to; n++ {
		wantSend(t, c, replica, n, api.OK)
	}
}

func wantSync(t *testing.T, c *docket.Cluster, replica int, want api.Errno) {
	t.Helper()
	if e := c.Sync(replica); e != want {
		t.Errorf("P10: Sync(%d) = %d, want %d", replica, e, want)
	}
}

func wantCrash(t *testing.T, c *docket.Cluster, replica int, keep int, want api.Errno) {
	t.Helper()
	if e := c.Crash(replica, keep); e != want {
		t.Errorf("P11: Crash(%d, %d) = %d, want %d", replica, keep, e, want)
	}
}

// The document's example 5.
func TestReplicaExample(t *testing.T) {
	c := exampleCluster(t)
	log := c.Log()
	wantSend(t, c, 0, 1, api.ErrGap)
	wantSend(t, c, 0, 4, api.ErrNone)
	wantSend(t, c, 0, 0, api.OK)
	wantSend(t, c, 0, 0, api.ErrOld)
	wantGet(t, c, 0, "a", 1)
	wantSync(t, c, 0, api.OK)
	wantSend(t, c, 0, 1, api.OK)
	wantGet(t, c, 0, "b", 6)
	wantCrash(t, c, 0, 38, api.OK)
	wantTells(t, c, 1, log[:31])
	wantGet(t, c, 0, "b", 0)
	wantSend(t, c, 0, 1, api.OK)
	wantCrash(t, c, 0, 39, api.OK)
	wantTells(t, c, 2, log[:31+39])
	wantCrash(t, c, 0, 0, api.OK)
	wantTells(t, c, 2, log[:31+39])
	wantCells(t, c, 0, api.Cells{1, 6})
}

// wantTells: the replica 0 has so many epochs, and these bytes.
func wantTells(t *testing.T, c *docket.Cluster, count int, bytes string) {
	t.Helper()
	if got, e := c.Count(0); got != count || e != api.OK {
		t.Errorf("P12: Count(0) = %d, %d, want %d, 0", got, e, count)
	}
	if disk, e := c.Disk(0); disk != bytes || e != api.OK {
		t.Errorf("P12: Disk(0) = %q, %d, want %q, 0", disk, e, bytes)
	}
}

func TestNewReplicasHaveNothing(t *testing.T) {
	for replicas := 1; replicas <= 4; replicas++ {
		for _, epochs := range []int{0, len(story)} {
			c := told(t, replicas, epochs)
			for replica := 0; replica < replicas; replica++ {
				wantHas(t, c, replica, 0)
				wantSync(t, c, replica, api.OK)
				wantHas(t, c, replica, 0)
				wantCrash(t, c, replica, 5, api.OK)
				wantHas(t, c, replica, 0)
			}
		}
	}
}

// At each number of replicas all of them are there, and none beyond them.
func TestReplicaNumbers(t *testing.T) {
	for replicas := 1; replicas <= 4; replicas++ {
		c := told(t, replicas, len(story))
		for replica := 0; replica < replicas; replica++ {
			sendUpTo(t, c, replica, 0, replica+1)
			wantSync(t, c, replica, api.OK)
			sendUpTo(t, c, replica, replica+1, replica+3)
			wantHas(t, c, replica, replica+3)
		}
		for _, replica := range []int{-1, replicas, replicas + 1, replicas + 256, replicas - 1 - 256, -replicas, math.MinInt, math.MaxInt, math.MinInt32, math.MaxInt32} {
			wantNoReplica(t, c, replica)
		}
		for replica := 0; replica < replicas; replica++ {
			wantHas(t, c, replica, replica+3)
			// What was refused made nothing safe either.
			wantCrash(t, c, replica, 0, api.OK)
			wantHas(t, c, replica, replica+1)
		}
	}
}

// Each call answers ErrReplica and nothing else, whatever other error applies too.
func wantNoReplica(t *testing.T, c *docket.Cluster, replica int) {
	t.Helper()
	for _, n := range []int{-1, 0, 1, 2, 3, 4, 6, 7, 200, math.MinInt, math.MaxInt} {
		wantSend(t, c, replica, n, api.ErrReplica)
		wantCrash(t, c, replica, n, api.ErrReplica)
	}
	wantSync(t, c, replica, api.ErrReplica)
	if disk, e := c.Disk(replica); disk != "" || e != api.ErrReplica {
		t.Errorf("P12: Disk(%d) = %q, %d, want nothing and %d", replica, disk, e, api.ErrReplica)
	}
	if count, e := c.Count(replica); count != 0 || e != api.ErrReplica {
		t.Errorf("P12: Count(%d) = %d, %d, want nothing and %d", replica, count, e, api.ErrReplica)
	}
	for _, key := range []string{"a", "b", "h", "i", "A", "ab", "", "\x00"} {
		if cell, e := c.Get(replica, key); cell != 0 || e != api.ErrReplica {
			t.Errorf("P12: Get(%d, %q) = %d, %d, want nothing and %d", replica, key, cell, e, api.ErrReplica)
		}
	}
}

func TestReplicasSideBySide(t *testing.T) {
	c := told(t, 4, len(story))
	has := []int{7, 0, 3, 5}
	for replica, count := range has {
		sendUpTo(t, c, replica, 0, count)
	}
	look := func() {
		t.Helper()
		for replica, count := range has {
			wantHas(t, c, replica, count)
		}
	}
	look()
	wantSync(t, c, 2, api.OK)
	wantCrash(t, c, 3, -1, api.OK)
	has[3] = 0
	look()
	wantCrash(t, c, 2, -1, api.OK)
	look()
	wantSend(t, c, 1, 0, api.OK)
	has[1] = 1
	look()
	// What one has synced is safe with that one alone.
	wantCrash(t, c, 0, len(bytesFrom(0, 6)), api.OK)
	has[0] = 6
	look()
	wantSend(t, c, 3, 0, api.OK)
	wantSend(t, c, 0, 0, api.ErrOld)
	wantSend(t, c, 2, 0, api.ErrOld)
	wantSend(t, c, 1, 2, api.ErrGap)
	has[3] = 1
	look()
}

// Replicas that were brought all have what the sequencer came to, however often they crashed.
func TestReplicasComeToTheSameCells(t *testing.T) {
	c := told(t, 4, len(story))
	for replica := 0; replica < 4; replica++ {
		for n := 0; n < len(story); n++ {
			wantSend(t, c, replica, n, api.OK)
			if replica > 0 && n%replica == 0 {
				wantCrash(t, c, replica, 0, api.OK)
				has, _ := c.Count(replica)
				sendUpTo(t, c, replica, has, n+1)
			}
			if replica > 1 && n%3 == 2 {
				wantSync(t, c, replica, api.OK)
			}
		}
		wantHas(t, c, replica, len(story))
	}
}

// Epochs go on being filled while replicas have some of them, and none.
func TestReplicasWhileEpochsAreFilled(t *testing.T) {
	c := newCluster(t, api.Conf{Clients: 1, Queue: 1, Quantum: 1, Room: 8, Replicas: 2})
	wantSend(t, c, 0, 0, api.ErrNone)
	for n := 0; n < 20; n++ {
		hand(t, c, recordOf(0, n, "a|a+1"))
		// What waits is in no epoch yet.
		wantSend(t, c, 0, n, api.ErrNone)
		wantGet(t, c, 0, "a", n)
		fillTimes(t, c, 1)
		wantGet(t, c, 0, "a", n)
		wantSend(t, c, 0, n, api.OK)
		wantGet(t, c, 0, "a", n+1)
		wantGet(t, c, 1, "a", 0)
		wantTells(t, c, n+1, c.Log())
	}
	sendUpTo(t, c, 1, 0, 20)
	wantGet(t, c, 1, "a", 20)
}

func TestDiskOnceToldStays(t *testing.T) {
	c := told(t, 1, len(story))
	sendUpTo(t, c, 0, 0, 3)
	disk, _ := c.Disk(0)
	copied := string([]byte(disk))
	sendUpTo(t, c, 0, 3, 7)
	wantCrash(t, c, 0, 0, api.OK)
	sendUpTo(t, c, 0, 0, 4)
	if disk != copied {
		t.Errorf("P12: what Disk told was %q and is %q", copied, disk)
	}
}

func TestGetKeys(t *testing.T) {
	c := newCluster(t, api.Conf{Clients: 1, Queue: 1, Quantum: 8, Room: 8, Replicas: 2})
	hand(t, c, recordOf(0, 1, "abcdefgh|a=1;b=-2;c=3;d=-4;e=5;f=-6;g=32767;h=-32768"))
	fillTimes(t, c, 1)
	wantSend(t, c, 1, 0, api.OK)
	wantCells(t, c, 1, api.Cells{1, -2, 3, -4, 5, -6, 32767, -32768})
	wantCells(t, c, 0, api.Cells{})
	keys := []string{"", "ab", "aa", "a ", " a", "ha", "a\x00", "\x00a", "a|", "a=1", "abcdefgh", "é", "ａ", "а", strings.Repeat("a", 100000)}
	for b := 0; b < 256; b++ {
		if b < 'a' || b > 'h' {
			keys = append(keys, bytesOf(byte(b)))
		}
	}
	for _, key := range keys {
		for replica := 0; replica < 2; replica++ {
			if cell, e := c.Get(replica, key); cell != 0 || e != api.ErrKey {
				t.Errorf("P12: Get(%d, %.20q) = %d, %d, want nothing and %d", replica, key, cell, e, api.ErrKey)
			}
		}
	}
	wantCells(t, c, 1, api.Cells{1, -2, 3, -4, 5, -6, 32767, -32768})
}
