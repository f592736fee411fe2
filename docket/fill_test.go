package docket_test

import (
	"testing"

	"docket/api"
	"docket/docket"
)

func TestFillTakesOneByOneFromTheFront(t *testing.T) {
	c := newCluster(t, api.Conf{Clients: 1, Queue: 8, Quantum: 1, Room: 8, Replicas: 1})
	for id := 8; id >= 1; id-- {
		hand(t, c, record(0, id, 1))
	}
	for n := 0; n < 8; n++ {
		wantFill(t, c, n, record(0, 8-n, 1))
	}
	wantFill(t, c, 8)
}

// For each quantum and cost: it goes at the first visit at which its cost is not above the credit.
func TestFillCostAtTheCredit(t *testing.T) {
	for quantum := 1; quantum <= 8; quantum++ {
		for cost := 1; cost <= 8; cost++ {
			c := newCluster(t, api.Conf{Clients: 1, Queue: 1, Quantum: quantum, Room: 64, Replicas: 1})
			hand(t, c, record(0, 5, cost))
			n := 0
			for credit := quantum; credit < cost; credit += quantum {
				wantFill(t, c, n)
				wantReply(t, c, 5, api.Waiting, 0)
				n++
			}
			wantFill(t, c, n, record(0, 5, cost))
		}
	}
}

// For each room: what costs just what is left of it goes, what costs one more waits.
func TestFillCostAtTheRoom(t *testing.T) {
	for room := 8; room <= 63; room++ {
		for left := max(1, room-7*8); left <= 7; left++ {
			for more := 0; more <= 1; more++ {
				c := newCluster(t, api.Conf{Clients: 8, Queue: 1, Quantum: 8, Room: room, Replicas: 1})
				var ahead []api.Record
				for rest := room - left; rest > 0; rest -= min(rest, 8) {
					ahead = append(ahead, record(len(ahead), len(ahead), min(rest, 8)))
				}
				last := record(7, 7, left+more)
				hand(t, c, ahead...)
				hand(t, c, last)
				if more == 0 {
					wantFill(t, c, 0, append(ahead, last)...)
				} else {
					wantFill(t, c, 0, ahead...)
					wantReply(t, c, 7, api.Waiting, 0)
				}
			}
		}
	}
}

// The room that is left goes down within a visit too, and a smaller one behind a front that waits does not overtake it.
func TestFillRoomEndsAVisit(t *testing.T) {
	c := newCluster(t, api.Conf{Clients: 2, Queue: 8, Quantum: 8, Room: 9, Replicas: 1})
	hand(t, c, record(0, 1, 8), record(0, 2, 8), record(0, 3, 1), record(1, 4, 2), record(1, 5, 1))
	wantFill(t, c, 0, record(0, 1, 8))                  // 1 is left: 4 costs 2, and 5 stands behind it; credits 0, 8
	wantFill(t, c, 1, record(1, 4, 2), record(1, 5, 1)) // 6 are left: 2 costs 8, and 3 stands behind it; credits 8, 0
	wantFill(t, c, 2, record(0, 2, 8), record(0, 3, 1)) // just all 9
	wantFill(t, c, 3)
}

// A client that cannot go does not keep those from going that are visited behind it.
func TestFillGoesOnBehindOneThatWaits(t *testing.T) {
	c := newCluster(t, api.Conf{Clients: 4, Queue: 8, Quantum: 3, Room: 8, Replicas: 1})
	hand(t, c, record(0, 1, 4), record(1, 2, 3), record(2, 3, 4), record(2, 4, 1), record(3, 5, 3))
	wantFill(t, c, 0, record(1, 2, 3), record(3, 5, 3))                   // credits 3, 0, 3, 0
	wantFill(t, c, 1, record(2, 3, 4), record(2, 4, 1))                   // 3 are left: 1 costs 4
	hand(t, c, record(1, 6, 3), record(3, 7, 1))                          // the credit of client 0 is 6
	wantFill(t, c, 2, record(3, 7, 1), record(0, 1, 4), record(1, 6, 3))  // client 2 is first: 7 of 8, then 3, then nothing is left
	hand(t, c, record(0, 8, 3), record(1, 9, 3), record(2, 10, 2))        // credits are all 0
	wantFill(t, c, 3, record(0, 8, 3), record(1, 9, 3), record(2, 10, 2)) // client 3 is first, but has nothing
}

// What is over stays with a client whose queue is not empty.
func TestFillCreditIsKept(t *testing.T) {
	c := newCluster(t, api.Conf{Clients: 1, Queue: 8, Quantum: 3, Room: 64, Replicas: 1})
	hand(t, c, record(0, 1, 8), record(0, 2, 4), record(0, 3, 7))
	wantFill(t, c, 0)                  // 3
	wantFill(t, c, 1)                  // 6
	wantFill(t, c, 2, record(0, 1, 8)) // 9, 1 is over
	wantFill(t, c, 3, record(0, 2, 4)) // 4, nothing is over
	wantFill(t, c, 4)                  // 3
	wantFill(t, c, 5)                  // 6
	wantFill(t, c, 6, record(0, 3, 7)) // 9
	hand(t, c, record(0, 4, 4))        // the 2 that were over are gone
	wantFill(t, c, 7)
	wantFill(t, c, 8, record(0, 4, 4))
}

// Credit grows where the room, not the credit, keeps a client waiting.
func TestFillCreditGrowsWithoutRoom(t *testing.T) {
	c := newCluster(t, api.Conf{Clients: 2, Queue: 8, Quantum: 4, Room: 8, Replicas: 1})
	hand(t, c, record(0, 1, 4), record(0, 2, 4), record(0, 3, 1), record(1, 11, 4), record(1, 12, 5), record(1, 13, 3), record(1, 14, 1), record(1, 15, 8))
	wantFill(t, c, 0, record(0, 1, 4), record(1, 11, 4))  // credits 0, 0
	wantFill(t, c, 1, record(0, 2, 4))                    // client 1 has 4, 12 costs 5; credits 4 and 0
	wantFill(t, c, 2, record(0, 3, 1), record(1, 12, 5))  // 7 are left, 2 behind; client 1 has 8, 3 over; 13 costs 3
	wantFill(t, c, 3, record(1, 13, 3), record(1, 14, 1)) // 7, 3 over: 15 costs 8, and 4 are left
	wantFill(t, c, 4)                                     // 7
	wantFill(t, c, 5, record(1, 15, 8))                   // 11
	hand(t, c, record(1, 16, 5))                          // begins with 0
	wantFill(t, c, 6)                                     // 4
	hand(t, c, record(0, 4, 4), record(0, 5, 4))          // begins with 0
	wantFill(t, c, 7, record(1, 16, 5))                   // 3 are left: client 0 has 4, 4 costs 4
	wantFill(t, c, 8, record(0, 4, 4), record(0, 5, 4))   // client 0 has 8
	wantFill(t, c, 9)
}

// A client whose queue becomes empty has no credit, however it becomes so.
func TestFillCreditOfAnEmptyQueue(t *testing.T) {
	conf := api.Conf{Clients: 1, Queue: 8, Quantum: 4, Room: 64, Replicas: 1}
	t.Run("its last one goes", func(t *testing.T) {
		c := newCluster(t, conf)
		hand(t, c, record(0, 1, 1))
		wantFill(t, c, 0, record(0, 1, 1))
		hand(t, c, record(0, 2, 5))
		wantFill(t, c, 1)
		wantFill(t, c, 2, record(0, 2, 5))
	})
	t.Run("its last one expires", func(t *testing.T) {
		c := newCluster(t, conf)
		wantSubmit(t, c, 0, 1, ofCost(8), 0, api.OK)
		wantFill(t, c, 0) // 4
		wantFill(t, c, 1, gone(0, 1))
		hand(t, c, record(0, 2, 5))
		wantFill(t, c, 2) // 4 again
		wantFill(t, c, 3, record(0, 2, 5))
	})
	t.Run("nothing is in it", func(t *testing.T) {
		c := newCluster(t, conf)
		fillTimes(t, c, 5)
		hand(t, c, record(0, 1, 5))
		wantFill(t, c, 5)
		wantFill(t, c, 6, record(0, 1, 5))
	})
	t.Run("one expires, another is left", func(t *testing.T) {
		c := newCluster(t, conf)
		wantSubmit(t, c, 0, 1, ofCost(8), 0, api.OK)
		hand(t, c, record(0, 2, 8))
		wantFill(t, c, 0)                              // 4
		wantFill(t, c, 1, gone(0, 1), record(0, 2, 8)) // 8: kept, as something was left to wait
		hand(t, c, record(0, 3, 5), record(0, 4, 4))   // begins with 0
		wantFill(t, c, 2)                              // 4
		wantFill(t, c, 3, record(0, 3, 5))             // 8, 3 over
		wantFill(t, c, 4, record(0, 4, 4))             // 7
	})
}

// Each client has a credit of its own.
func TestFillCreditsApart(t *testing.T) {
	c := newCluster(t, api.Conf{Clients: 3, Queue: 8, Quantum: 2, Room: 64, Replicas: 1})
	hand(t, c, record(0, 1, 6), record(1, 2, 4), record(2, 3, 2))
	wantFill(t, c, 0, record(2, 3, 2))
	hand(t, c, record(2, 4, 4))
	wantFill(t, c, 1, record(1, 2, 4))
	hand(t, c, record(1, 5, 2))
	wantFill(t, c, 2, record(2, 4, 4), record(0, 1, 6), record(1, 5, 2))
}

// Who is first goes round and round, whether there is something to take or not.
func TestFillWhoIsFirst(t *testing.T) {
	for clients := 1; clients <= 8; clients++ {
		c := newCluster(t, api.Conf{Clients: clients, Queue: 1, Quantum: 8, Room: 64, Replicas: 1})
		for n := 0; n < 3*clients+1; n++ {
			if n%5 == 3 {
				wantFill(t, c, n)
				continue
			}
			var records []api.Record
			for client := clients - 1; client >= 0; client-- {
				hand(t, c, record(client, 10*n+client, 1))
			}
			for i := 0; i < clients; i++ {
				client := (n + i) % clients
				records = append(records, record(client, 10*n+client, 1))
			}
			wantFill(t, c, n, records...)
		}
	}
}

// The first one takes the whole room; each has its turn.
func TestFillTurnsUnderLittleRoom(t *testing.T) {
	for clients := 1; clients <= 8; clients++ {
		c := newCluster(t, api.Conf{Clients: clients, Queue: 3, Quantum: 8, Room: 8, Replicas: 1})
		for client := 0; client < clients; client++ {
			hand(t, c, record(client, 10*client, 8), record(client, 10*client+1, 8), record(client, 10*client+2, 8))
		}
		for n := 0; n < 3*clients; n++ {
			wantFill(t, c, n, record(n%clients, n%clients*10+n/clients, 8))
		}
		wantFill(t, c, 3*clients)
	}
}

// The room is that of one epoch, and whole again in the next.
func TestFillRoomOfEachEpoch(t *testing.T) {
	c := newCluster(t, api.Conf{Clients: 2, Queue: 8, Quantum: 8, Room: 8, Replicas: 1})
	for i := 0; i < 4; i++ {
		hand(t, c, record(0, 10+i, 4), record(1, 20+i, 4))
	}
	wantFill(t, c, 0, record(0, 10, 4), record(0, 11, 4))
	wantFill(t, c, 1, record(1, 20, 4), record(1, 21, 4))
	wantFill(t, c, 2, record(0, 12, 4), record(0, 13, 4))
	wantFill(t, c, 3, record(1, 22, 4), record(1, 23, 4))
	wantFill(t, c, 4)
}

func TestFillExpired(t *testing.T) {
	c := newCluster(t, api.Conf{Clients: 3, Queue: 8, Quantum: 1, Room: 8, Replicas: 1})
	wantSubmit(t, c, 2, 1, ofCost(2), 0, api.OK)
	wantSubmit(t, c, 0, 2, ofCost(8), far, api.OK)
	wantSubmit(t, c, 2, 3, ofCost(8), 1, api.OK)
	wantSubmit(t, c, 0, 4, ofCost(1), 0, api.OK)
	wantSubmit(t, c, 1, 5, ofCost(3), 1, api.OK)
	wantSubmit(t, c, 2, 6, ofCost(1), 0, api.OK)
	wantSubmit(t, c, 0, 7, ofCost(1), 0, api.OK)
	wantSubmit(t, c, 0, 8, ofCost(1), 1, api.OK)
	wantSubmit(t, c, 2, 9, ofCost(2), far, api.OK)
	wantFill(t, c, 0)
	// Client by client from 0 on, though client 1 is first; out of the middle of the queues; 5 and 8 still have time.
	wantFill(t, c, 1, gone(0, 4), gone(0, 7), gone(2, 1), gone(2, 6))
	for _, id := range []int{4, 7, 1, 6} {
		wantReply(t, c, id, api.Expired, 1)
	}
	for _, id := range []int{2, 3, 5, 8, 9} {
		wantReply(t, c, id, api.Waiting, 0)
	}
	// Behind those that have expired, those that go: the credit of client 2 is 3.
	wantFill(t, c, 2, gone(0, 8), gone(1, 5), gone(2, 3), record(2, 9, 2))
	wantReply(t, c, 9, api.Done, 2)
	wantFill(t, c, 3)
	wantReply(t, c, 2, api.Waiting, 0)
}

// What has a deadline of n can still go in epoch n, and expires in n+1.
func TestFillDeadlineAtTheEpoch(t *testing.T) {
	for deadline := 0; deadline < 7; deadline++ {
		c := newCluster(t, api.Conf{Clients: 1, Queue: 8, Quantum: 1, Room: 8, Replicas: 1})
		wantSubmit(t, c, 0, 1, ofCost(5), deadline, api.OK)
		for n := 0; n < 4 && n <= deadline; n++ {
			wantFill(t, c, n)
		}
		if deadline < 4 {
			wantFill(t, c, deadline+1, gone(0, 1))
			wantReply(t, c, 1, api.Expired, deadline+1)
		} else {
			wantFill(t, c, 4, record(0, 1, 5))
			wantReply(t, c, 1, api.Done, 4)
		}
	}
}

// What has expired takes nothing off the credit and the room, and is not done.
func TestFillExpiredCostNothing(t *testing.T) {
	c := newCluster(t, api.Conf{Clients: 2, Queue: 8, Quantum: 4, Room: 8, Replicas: 1})
	wantSubmit(t, c, 1, 1, "a|a=5;a=5;a=5;a=5;a=5;a=5;a=5;a=5", 0, api.OK)
	wantSubmit(t, c, 1, 2, "a|a=6", 0, api.OK)
	wantSubmit(t, c, 1, 3, "a|a~0;a~0;a~0;a~0;a~0;a~0;a~0;a~0", far, api.OK)
	wantFill(t, c, 0) // 4
	wantFill(t, c, 1, gone(1, 1), gone(1, 2), recordOf(1, 3, "a|a~0;a~0;a~0;a~0;a~0;a~0;a~0;a~0"))
	wantReply(t, c, 3, api.Done, 1)
}

// Those that expire may be all, and more than the room.
func TestFillAllExpire(t *testing.T) {
	c := newCluster(t, confOf([5]int{8, 8, 1, 8, 1}))
	var all []api.Record
	for client := 7; client >= 0; client-- {
		for i := 0; i < 8; i++ {
			wantSubmit(t, c, client, 10*client+i, ofCost(8), 0, api.OK)
		}
	}
	for client := 0; client < 8; client++ {
		for i := 0; i < 8; i++ {
			all = append(all, gone(client, 10*client+i))
		}
	}
	wantFill(t, c, 0)
	wantFill(t, c, 1, all...)
	wantFill(t, c, 2)
}

// The most that an epoch can have: 64 records that go, or a cost of 64 in as few as can be.
func TestFillAllGo(t *testing.T) {
	for _, cost := range []int{1, 2, 4, 8} {
		c := newCluster(t, confOf(greatest))
		var all []api.Record
		for client := 0; client < 8; client++ {
			for i := 0; i < 8/cost; i++ {
				all = append(all, record(client, 1000*client+i, cost))
			}
		}
		hand(t, c, all...)
		wantFill(t, c, 0, all...)
		wantFill(t, c, 1)
	}
}

// Of the texts the outcome hangs on those ahead, of this epoch and of earlier ones, in the order of the records, not in that in which they were handed in.
func TestFillOutcomes(t *testing.T) {
	c := newCluster(t, api.Conf{Clients: 3, Queue: 8, Quantum: 8, Room: 64, Replicas: 1})
	wantSubmit(t, c, 2, 1, "a|a~2;a=3", far, api.OK)
	wantSubmit(t, c, 1, 2, "a|a~1;a=2", far, api.OK)
	wantSubmit(t, c, 0, 3, "a|a~0;a=1", far, api.OK)
	wantSubmit(t, c, 0, 4, "a|a=9;a~0", far, api.OK)      // a condition that does not hold: 9 is not kept
	wantSubmit(t, c, 0, 5, "a|a=9;b=9", far, api.OK)      // b is not among its keys
	wantSubmit(t, c, 1, 6, "ab|b=a;a=7;b~a", far, api.OK) // 2 is not 7
	fillTimes(t, c, 1)
	for id, state := range []api.State{api.Done, api.Done, api.Done, api.Aborted, api.Aborted, api.Aborted} {
		wantReply(t, c, id+1, state, 0)
	}
	wantSubmit(t, c, 0, 7, "a|a~3;a=4", far, api.OK)
	wantSubmit(t, c, 1, 8, "ab|a~3;b~0;b-1", far, api.OK)
	wantSubmit(t, c, 2, 9, "ab|b<0;a>2;a*b", far, api.OK)
	fillTimes(t, c, 1) // client 1, 2, 0: a becomes -3, then 7 finds no 3
	wantReply(t, c, 8, api.Done, 1)
	wantReply(t, c, 9, api.Done, 1)
	wantReply(t, c, 7, api.Aborted, 1)
	wantSubmit(t, c, 0, 10, "ab|a~-3;b~-1", far, api.OK)
	fillTimes(t, c, 1)
	wantReply(t, c, 10, api.Done, 2)
}

// What is aborted stands in the epoch with its text, and costs what it costs.
func TestFillAbortedCost(t *testing.T) {
	c := newCluster(t, api.Conf{Clients: 2, Queue: 8, Quantum: 6, Room: 8, Replicas: 1})
	fails := "a|b=1;b=1;b=1;b=1;b=1;b=1"
	wantSubmit(t, c, 0, 1, fails, far, api.OK)
	hand(t, c, record(0, 2, 1), record(1, 3, 3))
	wantFill(t, c, 0, recordOf(0, 1, fails)) // no credit is left for 2, and 2 of the room: 3 costs 3
	wantReply(t, c, 1, api.Aborted, 0)
	wantFill(t, c, 1, record(1, 3, 3), record(0, 2, 1))
}

func TestFillLastOfTheEpochs(t *testing.T) {
	c := newCluster(t, api.Conf{Clients: 2, Queue: 2, Quantum: 1, Room: 8, Replicas: 1})
	fillTimes(t, c, 199)
	hand(t, c, record(0, 1, 1), record(1, 2, 2), record(1, 4, 1))
	wantSubmit(t, c, 0, 3, ofCost(1), 199, api.OK)
	wantFill(t, c, 199, record(0, 1, 1))
	wantReply(t, c, 1, api.Done, 199)
	log := c.Log()
	if n, size := docket.Scan(log); n != 200 || size != len(log) {
		t.Errorf("P8: the log has %d epochs in %d of its %d bytes", n, size, len(log))
	}
	for i := 0; i < 3; i++ {
		count, e := c.Fill()
		if count != 0 || e != api.ErrMany {
			t.Errorf("P8: Fill beyond the last = %d, %d, want 0, %d", count, e, api.ErrMany)
		}
		if c.Log() != log {
			t.Errorf("P1: Fill beyond the last changes the log")
		}
		wantReply(t, c, 1, api.Done, 199)
		wantReply(t, c, 2, api.Waiting, 0)
		wantReply(t, c, 3, api.Waiting, 0) // its deadline is over, but no epoch comes in which it could expire
		wantSubmit(t, c, 1, 5, ofCost(1), far, api.ErrFull)
		wantSubmit(t, c, 0, 5, ofCost(1), 199, api.ErrLate)
	}
	wantSubmit(t, c, 0, 5, ofCost(1), 200, api.OK)
	wantSubmit(t, c, 0, 6, ofCost(1), 200, api.ErrFull)
}
