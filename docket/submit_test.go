package docket_test

import (
	"math"
	"testing"

	"docket/api"
)

func TestSubmitClients(t *testing.T) {
	for clients := 1; clients <= 8; clients++ {
		c := newCluster(t, api.Conf{Clients: clients, Queue: 1, Quantum: 1, Room: 8, Replicas: 1})
		for _, client := range []int{-1, clients, clients + 1, 8, clients - 256, clients + 1<<32, math.MinInt, math.MaxInt} {
			wantSubmit(t, c, client, 7, "a|a=1", far, api.ErrClient)
		}
		wantNoReply(t, c, 7)
		wantSubmit(t, c, clients-1, 7, "a|a=1", far, api.OK)
		if clients > 1 {
			wantSubmit(t, c, 0, 8, "a|a=1", far, api.OK)
		}
	}
}

func TestSubmitNumbers(t *testing.T) {
	c := newCluster(t, confOf(greatest))
	for _, id := range []int{-1, 1000000, 1000001, 1 << 24, 1 << 32, -999999, math.MinInt, math.MaxInt} {
		wantSubmit(t, c, 0, id, "a|a=1", far, api.ErrID)
		wantNoReply(t, c, id)
	}
	hand(t, c, record(0, 0, 1), record(0, 999999, 1), record(0, 999998, 1), record(0, 1, 1), record(0, 65536, 1))
	wantFill(t, c, 0, record(0, 0, 1), record(0, 999999, 1), record(0, 999998, 1), record(0, 1, 1), record(0, 65536, 1))
	for _, id := range []int{0, 999999, 999998, 1, 65536} {
		wantReply(t, c, id, api.Done, 0)
	}
}

func TestSubmitTexts(t *testing.T) {
	c := newCluster(t, confOf(greatest))
	for _, text := range []string{"", "|", "a|", "ba|a=1", "a|a=01", "a|a=-0", "a|a=32768", "a|a=1;", "a| a=1", "i|i=1", longest + "4", ofCost(9)} {
		wantSubmit(t, c, 0, 1, text, far, api.ErrText)
	}
	wantNoReply(t, c, 1)
	wantSubmit(t, c, 0, 1, longest, far, api.OK)
	wantSubmit(t, c, 1, 2, "|b~0", far, api.OK)
	wantSubmit(t, c, 1, 3, "|a=1", far, api.OK)
	wantFill(t, c, 0, api.Record{Client: 0, ID: 1, Text: longest}, api.Record{Client: 1, ID: 2, Text: "|b~0"}, api.Record{Client: 1, ID: 3, Text: "|a=1"})
}

func TestSubmitDeadlines(t *testing.T) {
	c := newCluster(t, api.Conf{Clients: 1, Queue: 8, Quantum: 8, Room: 64, Replicas: 1})
	for n := 0; n <= 200; n++ {
		for _, deadline := range []int{n - 1, n - 2, -1, math.MinInt} {
			if deadline < n {
				wantSubmit(t, c, 0, n, "a|a=1", deadline, api.ErrLate)
			}
		}
		wantNoReply(t, c, n)
		wantSubmit(t, c, 0, n, "a|a=1", n, api.OK)
		wantSubmit(t, c, 0, 1000+n, "a|a=1", n+1, api.OK)
		wantSubmit(t, c, 0, 2000+n, "a|a=1", math.MaxInt, api.OK)
		if n < 200 {
			fillTimes(t, c, 1)
			wantReply(t, c, n, api.Done, n)
		}
	}
	wantReply(t, c, 200, api.Waiting, 0)
}

func TestSubmitFullQueue(t *testing.T) {
	c := newCluster(t, api.Conf{Clients: 2, Queue: 3, Quantum: 1, Room: 8, Replicas: 1})
	hand(t, c, record(0, 1, 1), record(0, 2, 1), record(0, 3, 1))
	wantSubmit(t, c, 0, 4, "a|a=1", far, api.ErrFull)
	wantSubmit(t, c, 1, 4, "a|a=1", 0, api.OK) // the other queue has room
	wantSubmit(t, c, 1, 5, ofCost(8), 0, api.OK)
	wantSubmit(t, c, 1, 6, "a|a=1", far, api.OK)
	wantSubmit(t, c, 1, 7, "a|a=1", far, api.ErrFull)
	fillTimes(t, c, 1) // one of each leaves
	hand(t, c, record(0, 7, 1))
	wantSubmit(t, c, 0, 8, "a|a=1", far, api.ErrFull)
	hand(t, c, record(1, 8, 1))
	wantSubmit(t, c, 1, 9, "a|a=1", far, api.ErrFull)
	wantFill(t, c, 1, gone(1, 5), recordOf(1, 6, "a|a=1"), record(0, 2, 1))
	hand(t, c, record(1, 9, 1), record(1, 10, 1)) // what has expired and what was done left room
	wantSubmit(t, c, 1, 11, "a|a=1", far, api.ErrFull)
}

func TestSubmitTwice(t *testing.T) {
	c := newCluster(t, api.Conf{Clients: 3, Queue: 4, Quantum: 2, Room: 16, Replicas: 1})
	wantSubmit(t, c, 0, 1, "a|a=1", far, api.OK)     // is done
	wantSubmit(t, c, 0, 2, "a|a~7", far, api.OK)     // is aborted
	wantSubmit(t, c, 1, 3, ofCost(8), 0, api.OK)     // expires
	wantSubmit(t, c, 1, 4, ofCost(8), far, api.OK)   // waits
	wantSubmit(t, c, 1, 5, "a|a=1", -1, api.ErrLate) // is not taken in
	twice := func() {
		t.Helper()
		for client := 0; client < 3; client++ {
			for id := 1; id <= 4; id++ {
				wantSubmit(t, c, client, id, "b|b=2", far, api.ErrTwice)
			}
		}
	}
	twice()
	fillTimes(t, c, 1)
	twice()
	fillTimes(t, c, 1)
	twice()
	wantReply(t, c, 1, api.Done, 0)
	wantReply(t, c, 2, api.Aborted, 0)
	wantReply(t, c, 3, api.Expired, 1)
	wantReply(t, c, 4, api.Waiting, 0)
	wantNoReply(t, c, 5)
	fillTimes(t, c, 198)
	twice()
}

// A number that was refused, for whatever reason, is free.
func TestSubmitAgainWhatWasRefused(t *testing.T) {
	c := newCluster(t, api.Conf{Clients: 2, Queue: 1, Quantum: 1, Room: 8, Replicas: 1})
	hand(t, c, record(0, 1, 1))
	wantSubmit(t, c, 2, 2, "a|a=1", far, api.ErrClient)
	wantSubmit(t, c, 0, 2, "a|a=", far, api.ErrText)
	wantSubmit(t, c, 0, 2, "a|a=1", -1, api.ErrLate)
	wantSubmit(t, c, 0, 2, "a|a=1", far, api.ErrFull)
	wantSubmit(t, c, 0, 2, "a|a=1", far, api.ErrFull)
	wantNoReply(t, c, 2)
	hand(t, c, record(1, 2, 1))
	wantReply(t, c, 2, api.Waiting, 0)
	wantFill(t, c, 0, record(0, 1, 1), record(1, 2, 1))
}

// Of the errors that apply, whichever they are, the one named first is the answer, and nothing changes.
func TestSubmitFirstErrorOfSeveral(t *testing.T) {
	errors := []api.Errno{api.ErrClient, api.ErrID, api.ErrText, api.ErrTwice, api.ErrLate, api.ErrFull}
	for wrong := 0; wrong < 1<<len(errors); wrong++ {
		applies := func(e api.Errno) bool {
			for i := range errors {
				if errors[i] == e {
					return wrong>>i&1 == 1
				}
			}
			return false
		}
		if applies(api.ErrID) && applies(api.ErrTwice) {
			continue // what is no number was never taken in
		}
		c := newCluster(t, api.Conf{Clients: 2, Queue: 2, Quantum: 8, Room: 64, Replicas: 1})
		hand(t, c, record(0, 1, 1))
		fillTimes(t, c, 3)
		hand(t, c, record(0, 2, 1), record(1, 3, 1), record(1, 4, 1))
		client, id, text, deadline := 0, 5, "a|a=1", 3
		if applies(api.ErrFull) {
			client = 1
		}
		if applies(api.ErrClient) {
			client += 2
		}
		if applies(api.ErrID) {
			id = 1000000
		}
		if applies(api.ErrText) {
			text = "a|a=1;"
		}
		if applies(api.ErrTwice) {
			id = 1 + wrong/2%4
		}
		if applies(api.ErrLate) {
			deadline = 2
		}
		want := api.OK
		for i := len(errors) - 1; i >= 0; i-- {
			if applies(errors[i]) {
				want = errors[i]
			}
		}
		wantSubmit(t, c, client, id, text, deadline, want)
		wantSubmit(t, c, 0, 9, "a|a=1", far, map[bool]api.Errno{true: api.ErrFull, false: api.OK}[want == api.OK])
		wantReply(t, c, 1, api.Done, 0)
		if want == api.OK {
			wantFill(t, c, 3, record(1, 3, 1), record(1, 4, 1), record(0, 2, 1), recordOf(0, 5, "a|a=1"))
			continue
		}
		wantNoReply(t, c, 5, 1000000)
		wantFill(t, c, 3, record(1, 3, 1), record(1, 4, 1), record(0, 2, 1), recordOf(0, 9, "a|a=1"))
	}
}
