package docket_test

import (
	"math"
	"testing"

	"docket/api"
	"docket/docket"
)

// partlySafe: a cluster whose replica 0 has so many epochs of the story, the first of them safe.
func partlySafe(t *testing.T, safe int, has int) *docket.Cluster {
	t.Helper()
	c := told(t, 1, len(story))
	sendUpTo(t, c, 0, 0, safe)
	wantSync(t, c, 0, api.OK)
	sendUpTo(t, c, 0, safe, has)
	return c
}

// leftOf: how many epochs a crash leaves.
func leftOf(safe int, has int, keep int) int {
	left := safe
	for n := safe + 1; n <= has; n++ {
		if len(bytesFrom(safe, n)) <= keep {
			left = n
		}
	}
	return left
}

// Whatever is safe and whatever is not, at each number of bytes that may be kept: the crash leaves whole epochs; a second one changes nothing; and the replica goes on with the first one that it has lost.
func TestCrashAtEveryByte(t *testing.T) {
	for has := 0; has <= len(story); has++ {
		for safe := 0; safe <= has; safe++ {
			keeps := []int{math.MinInt, math.MinInt32, -1000, -2, math.MaxInt - 1, math.MaxInt, math.MaxInt32}
			for keep := -1; keep <= len(bytesFrom(safe, has))+1; keep++ {
				keeps = append(keeps, keep)
			}
			for i, keep := range keeps {
				c := partlySafe(t, safe, has)
				left := leftOf(safe, has, keep)
				wantCrash(t, c, 0, keep, api.OK)
				wantHas(t, c, 0, left)
				wantCrash(t, c, 0, []int{0, -1, keep, math.MinInt}[i%4], api.OK)
				wantHas(t, c, 0, left)
				if t.Failed() {
					t.Fatalf("P11: of %d epochs %d were safe; Crash(0, %d)", has, safe, keep)
				}
			}
		}
	}
}

// The edges by name: just as many bytes as an epoch has, one less and one more.
func TestCrashAtTheEndOfAnEpoch(t *testing.T) {
	for n := 0; n+1 < len(story); n++ {
		size := len(bytesFrom(n, n+1))
		for _, x := range []struct{ keep, left int }{{size - 1, n}, {size, n + 1}, {size + 1, n + 1}, {0, n}, {-1, n}, {math.MinInt, n}, {math.MaxInt, n + 2}} {
			c := partlySafe(t, n, n+2)
			wantCrash(t, c, 0, x.keep, api.OK)
			wantHas(t, c, 0, x.left)
		}
	}
}

// A second crash behind a first: what the first one left is safe, though it was not, and nothing beyond.
func TestCrashBehindACrash(t *testing.T) {
	for _, keep := range []int{0, -1, 1, len(bytesFrom(5, 6)) - 1} {
		c := partlySafe(t, 1, 4)
		wantCrash(t, c, 0, len(bytesFrom(1, 3)), api.OK)
		wantHas(t, c, 0, 3)
		sendUpTo(t, c, 0, 3, 5)
		wantCrash(t, c, 0, len(bytesFrom(3, 5)), api.OK)
		wantHas(t, c, 0, 5)
		sendUpTo(t, c, 0, 5, 7)
		wantCrash(t, c, 0, keep, api.OK)
		wantHas(t, c, 0, 5)
		sendUpTo(t, c, 0, 5, 6)
		wantCrash(t, c, 0, keep, api.OK)
		wantHas(t, c, 0, 5)
	}
}

// Behind a crash just the first lost epoch can be sent, and the replica comes to the same cells again.
func TestCrashThenSendWhatIsLost(t *testing.T) {
	for left := 0; left < len(story); left++ {
		c := partlySafe(t, left, len(story))
		wantCrash(t, c, 0, 0, api.OK)
		wantHas(t, c, 0, left)
		if left > 0 {
			wantSend(t, c, 0, left-1, api.ErrOld)
		}
		if left+1 < len(story) {
			wantSend(t, c, 0, left+1, api.ErrGap)
		}
		wantHas(t, c, 0, left)
		for n := left; n < len(story); n++ {
			wantSend(t, c, 0, n, api.OK)
			wantHas(t, c, 0, n+1)
		}
	}
}

// A part of an epoch that a crash left is taken off: what is sent then goes behind whole epochs.
func TestCrashLeavesNoPartOfAnEpoch(t *testing.T) {
	size := len(bytesFrom(0, 1))
	for keep := 1; keep < size; keep++ {
		c := partlySafe(t, 0, 1)
		wantCrash(t, c, 0, keep, api.OK)
		wantHas(t, c, 0, 0)
		// Nothing of it is counted among what is safe.
		sendUpTo(t, c, 0, 0, 2)
		wantCrash(t, c, 0, size-1, api.OK)
		wantHas(t, c, 0, 0)
		sendUpTo(t, c, 0, 0, 2)
		wantCrash(t, c, 0, size, api.OK)
		wantHas(t, c, 0, 1)
	}
}

func TestSync(t *testing.T) {
	c := told(t, 1, len(story))
	// With nothing on the disk nothing becomes safe that comes later.
	wantSync(t, c, 0, api.OK)
	sendUpTo(t, c, 0, 0, 2)
	wantCrash(t, c, 0, 0, api.OK)
	wantHas(t, c, 0, 0)
	sendUpTo(t, c, 0, 0, 2)
	wantSync(t, c, 0, api.OK)
	wantHas(t, c, 0, 2)
	sendUpTo(t, c, 0, 2, 4)
	wantCrash(t, c, 0, -1, api.OK)
	wantHas(t, c, 0, 2)
	sendUpTo(t, c, 0, 2, 4)
	// Sync with something new, and twice with nothing new.
	for i := 0; i < 3; i++ {
		wantSync(t, c, 0, api.OK)
		wantHas(t, c, 0, 4)
	}
	wantCrash(t, c, 0, math.MinInt, api.OK)
	wantHas(t, c, 0, 4)
	sendUpTo(t, c, 0, 4, 7)
	wantCrash(t, c, 0, len(bytesFrom(4, 5)), api.OK)
	wantSync(t, c, 0, api.OK)
	wantHas(t, c, 0, 5)
	wantCrash(t, c, 0, 0, api.OK)
	wantHas(t, c, 0, 5)
}

// What is safe counts from the front of the disk, keep from behind it: safe bytes take nothing of keep.
func TestCrashKeepCountsWhatIsNotSafe(t *testing.T) {
	c := partlySafe(t, 3, 5)
	wantCrash(t, c, 0, len(bytesFrom(0, 3)), api.OK)
	wantHas(t, c, 0, leftOf(3, 5, len(bytesFrom(0, 3))))
	c = partlySafe(t, 3, 5)
	wantCrash(t, c, 0, len(bytesFrom(3, 4)), api.OK)
	wantHas(t, c, 0, 4)
}

// A crash is the replica's alone: the sequencer goes on as if there was none.
func TestCrashLeavesTheSequencerAlone(t *testing.T) {
	c := partlySafe(t, 2, 7)
	log := c.Log()
	wantCrash(t, c, 0, 0, api.OK)
	if c.Log() != log {
		t.Errorf("P11: behind a crash the log is %q, was %q", c.Log(), log)
	}
	wantReply(t, c, 9, api.Done, 6)
	wantReply(t, c, 7, api.Expired, 5)
	// The sequencer's own cells are what all epochs made of them.
	wantSubmit(t, c, 0, 10, "abcdefgh|a~2;b~6;c~32767;d~-1;e~24464;f~-1;g~1;h~c", 7, api.OK)
	wantFill(t, c, 7, recordOf(0, 10, "abcdefgh|a~2;b~6;c~32767;d~-1;e~24464;f~-1;g~1;h~c"))
	wantReply(t, c, 10, api.Done, 7)
	sendUpTo(t, c, 0, 2, 8)
	wantCells(t, c, 0, story[6].cells)
}
