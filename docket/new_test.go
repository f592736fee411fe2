package docket_test

import (
	"math"
	"testing"

	"docket/api"
	"docket/docket"
)

// The numbers of a Conf, in its order, each at its least and its greatest.
var (
	least    = [5]int{1, 1, 1, 8, 1}
	greatest = [5]int{8, 8, 8, 64, 4}
)

func confOf(l [5]int) api.Conf {
	return api.Conf{Clients: l[0], Queue: l[1], Quantum: l[2], Room: l[3], Replicas: l[4]}
}

func wantErrConf(t *testing.T, l [5]int) {
	t.Helper()
	c, e := docket.New(confOf(l))
	if c != nil || e != api.ErrConf {
		t.Errorf("P6: New(%v) = %v, %d, want nil, %d", l, c, e, api.ErrConf)
	}
}

func TestNewNumbersInTheirRange(t *testing.T) {
	for i := range least {
		for n := least[i]; n <= greatest[i]; n++ {
			for _, conf := range [][5]int{least, greatest} {
				conf[i] = n
				newCluster(t, confOf(conf))
			}
		}
	}
}

func TestNewNumbersBeyondTheirRange(t *testing.T) {
	for i := range least {
		for _, n := range []int{least[i] - 1, greatest[i] + 1, -least[i], -greatest[i], least[i] + 256, greatest[i] + 1<<16, least[i] + 1<<32, math.MinInt, math.MaxInt} {
			for _, conf := range [][5]int{least, greatest} {
				conf[i] = n
				wantErrConf(t, conf)
			}
		}
	}
	wantErrConf(t, [5]int{})
	wantErrConf(t, [5]int{-1, -1, -1, -1, -1})
	wantErrConf(t, [5]int{9, 9, 9, 65, 5})
}

func TestNewClusterIsEmpty(t *testing.T) {
	for _, l := range [][5]int{least, greatest} {
		c := newCluster(t, confOf(l))
		if log := c.Log(); log != "" {
			t.Errorf("P6: the log of a new cluster is %q", log)
		}
		wantNoReply(t, c, 0, 1, 999999)
		wantFill(t, c, 0)
	}
}

// Each client has a queue of just Queue, and no client is there beyond the last.
func TestNewClientsAndQueues(t *testing.T) {
	for clients := 1; clients <= 8; clients++ {
		for queue := 1; queue <= 8; queue++ {
			c := newCluster(t, api.Conf{Clients: clients, Queue: queue, Quantum: 1, Room: 8, Replicas: 1})
			id := 0
			for client := 0; client < clients; client++ {
				for i := 0; i < queue; i++ {
					wantSubmit(t, c, client, id, "a|a+1", far, api.OK)
					id++
				}
				wantSubmit(t, c, client, id, "a|a+1", far, api.ErrFull)
			}
			wantSubmit(t, c, clients, id, "a|a+1", far, api.ErrClient)
			wantSubmit(t, c, -1, id, "a|a+1", far, api.ErrClient)
		}
	}
}

// A new cluster's cells are 0, whatever another one holds.
func TestNewCellsAreZero(t *testing.T) {
	other := newCluster(t, confOf(greatest))
	wantSubmit(t, other, 0, 1, "abcdefgh|a=1;b=1;c=1;d=1;e=1;f=1;g=1;h=1", far, api.OK)
	wantFill(t, other, 0, api.Record{ID: 1, Text: "abcdefgh|a=1;b=1;c=1;d=1;e=1;f=1;g=1;h=1"})
	c := newCluster(t, confOf(greatest))
	wantSubmit(t, c, 0, 1, "abcdefgh|a~0;b~0;c~0;d~0;e~0;f~0;g~0;h~0", far, api.OK)
	fillTimes(t, c, 1)
	wantReply(t, c, 1, api.Done, 0)
}
