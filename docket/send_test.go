package docket_test

import (
	"math"
	"testing"

	"docket/api"
)

// Each number of epochs that there are, each number that the replica has, and each epoch that may be sent then: with an error nothing changes.
func TestSendEveryEpoch(t *testing.T) {
	for count := 0; count <= len(story); count++ {
		for has := 0; has <= count; has++ {
			c := told(t, 2, count)
			sendUpTo(t, c, 1, 0, has)
			for n := -3; n <= count+3; n++ {
				switch {
				case n < 0 || n >= count:
					wantSend(t, c, 1, n, api.ErrNone)
				case n < has:
					wantSend(t, c, 1, n, api.ErrOld)
				case n > has:
					wantSend(t, c, 1, n, api.ErrGap)
				}
			}
			wantHas(t, c, 1, has)
			if has < count {
				wantSend(t, c, 1, has, api.OK)
				wantHas(t, c, 1, has+1)
				wantSend(t, c, 1, has, api.ErrOld)
				wantHas(t, c, 1, has+1)
			}
			wantHas(t, c, 0, 0)
		}
	}
}

func TestSendEpochsThatAreNot(t *testing.T) {
	c := told(t, 1, len(story))
	sendUpTo(t, c, 0, 0, 3)
	for _, n := range []int{-1, -2, len(story), len(story) + 1, 199, 200, 256, 256 + 3, -253, 1<<16 + 3, 1<<32 + 3, math.MinInt, math.MaxInt, math.MinInt32, math.MaxInt32} {
		wantSend(t, c, 0, n, api.ErrNone)
	}
	wantHas(t, c, 0, 3)
}

// What was refused made nothing safe, and nothing lost either.
func TestSendRefusedLeavesWhatIsSafe(t *testing.T) {
	c := told(t, 1, len(story))
	sendUpTo(t, c, 0, 0, 2)
	wantSync(t, c, 0, api.OK)
	sendUpTo(t, c, 0, 2, 4)
	wantSend(t, c, 0, 0, api.ErrOld)
	wantSend(t, c, 0, 3, api.ErrOld)
	wantSend(t, c, 0, 5, api.ErrGap)
	wantSend(t, c, 0, 9, api.ErrNone)
	wantHas(t, c, 0, 4)
	wantCrash(t, c, 0, 0, api.OK)
	wantHas(t, c, 0, 2)
}

// A transaction that goes on only at cells of an earlier epoch: done, or aborted, as it was at the sequencer.
func TestSendDoesOnTheReplicasOwnCells(t *testing.T) {
	c := newCluster(t, api.Conf{Clients: 1, Queue: 1, Quantum: 8, Room: 8, Replicas: 1})
	cells := []int{1, 11, 11, -32768 + 11, 10}
	for n, text := range []string{"a|a~0;a+1", "a|a~1;a+10", "a|a<11;a=0", "a|a-32767;a-1", "a|a<0;a-1;a+32767;a+1"} {
		hand(t, c, recordOf(0, n, text))
		fillTimes(t, c, 1)
		wantSend(t, c, 0, n, api.OK)
		wantGet(t, c, 0, "a", cells[n])
		wantCrash(t, c, 0, math.MaxInt, api.OK)
		wantGet(t, c, 0, "a", cells[n])
	}
	wantReply(t, c, 2, api.Aborted, 2)
}

// The last epoch that there can be, and as many records as an epoch can have.
func TestSendAsMuchAsThereCanBe(t *testing.T) {
	c := newCluster(t, confOf(greatest))
	for n := 0; n < 200; n++ {
		for i := 0; i < 64; i++ {
			wantSubmit(t, c, i/8, 64*n+i, "abcdefgh|b-7", n, api.OK)
		}
		fillTimes(t, c, 1)
	}
	for n := 0; n < 200; n++ {
		wantSend(t, c, 3, n, api.OK)
	}
	wantSend(t, c, 3, 199, api.ErrOld)
	wantSend(t, c, 3, 200, api.ErrNone)
	log := c.Log()
	disk, e := c.Disk(3)
	if disk != log || e != api.OK {
		t.Errorf("P12: Disk(3) has %d bytes, %d, want all %d of the log", len(disk), e, len(log))
	}
	b := cameIn(-7 * 64 * 200)
	wantGet(t, c, 3, "b", b)
	wantCrash(t, c, 3, len(log)-1, api.OK)
	if count, e := c.Count(3); count != 199 || e != api.OK {
		t.Errorf("P11: behind a crash that took off one byte Count(3) = %d, %d, want 199, 0", count, e)
	}
	wantSend(t, c, 3, 199, api.OK)
	wantGet(t, c, 3, "b", b)
	wantSync(t, c, 3, api.OK)
	wantCrash(t, c, 3, 0, api.OK)
	if count, e := c.Count(3); count != 200 || e != api.OK {
		t.Errorf("P11: behind a crash with all safe Count(3) = %d, %d, want 200, 0", count, e)
	}
	wantGet(t, c, 3, "b", b)
}
