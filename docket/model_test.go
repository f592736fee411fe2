package docket_test

import (
	"math"
	"strings"
	"testing"

	"docket/api"
	"docket/docket"
)

// A second reading of the document's sequencer, by other means than the program's, to hold a cluster against: all that was ever taken in, in one list; the queues are what still waits of it.

type taken struct {
	client, id, deadline int
	text                 string
	reply                api.Reply
}

type model struct {
	conf   api.Conf
	all    []*taken
	byID   map[int]*taken
	credit map[int]int
	epochs []string
	cells  api.Cells
}

func newModel(conf api.Conf) *model {
	return &model{conf: conf, byID: map[int]*taken{}, credit: map[int]int{}}
}

func (m *model) queue(client int, late bool) []*taken {
	var queue []*taken
	for _, x := range m.all {
		if x.client == client && x.reply.State == api.Waiting && (x.deadline < len(m.epochs)) == late {
			queue = append(queue, x)
		}
	}
	return queue
}

func (m *model) submit(client int, id int, text string, deadline int) api.Errno {
	switch {
	case client < 0 || client >= m.conf.Clients:
		return api.ErrClient
	case id < 0 || id > 999999:
		return api.ErrID
	case !isTransaction(text):
		return api.ErrText
	case m.byID[id] != nil:
		return api.ErrTwice
	case deadline < len(m.epochs):
		return api.ErrLate
	case len(m.queue(client, false))+len(m.queue(client, true)) == m.conf.Queue:
		return api.ErrFull
	}
	x := &taken{client: client, id: id, deadline: deadline, text: text}
	m.all = append(m.all, x)
	m.byID[id] = x
	return api.OK
}

func (m *model) fill() (int, api.Errno) {
	n := len(m.epochs)
	if n == 200 {
		return 0, api.ErrMany
	}
	var records []api.Record
	for client := 0; client < m.conf.Clients; client++ {
		for _, x := range m.queue(client, true) {
			x.reply = api.Reply{State: api.Expired, Epoch: n}
			records = append(records, api.Record{Client: client, ID: x.id, Expired: true})
		}
	}
	room := m.conf.Room
	for i := 0; i < m.conf.Clients; i++ {
		client := (n + i) % m.conf.Clients
		m.credit[client] += m.conf.Quantum
		for _, x := range m.queue(client, false) {
			cost := 1 + strings.Count(x.text, ";")
			if cost > m.credit[client] || cost > room {
				break
			}
			m.credit[client] -= cost
			room -= cost
			x.reply = m.do(x.text, n)
			records = append(records, api.Record{Client: client, ID: x.id, Text: x.text})
		}
		if len(m.queue(client, false)) == 0 {
			delete(m.credit, client)
		}
	}
	frame, _ := expectedFrame(n, records)
	m.epochs = append(m.epochs, frame)
	return len(records), api.OK
}

func (m *model) do(text string, n int) api.Reply {
	after, done, _ := expected(text, m.cells)
	m.cells = after
	if done {
		return api.Reply{State: api.Done, Epoch: n}
	}
	return api.Reply{State: api.Aborted, Epoch: n}
}

func (m *model) reply(id int) (api.Reply, api.Errno) {
	if x := m.byID[id]; x != nil {
		return x.reply, api.OK
	}
	return api.Reply{}, api.ErrNone
}

// call is a Submit, or, if fill, a Fill.
type call struct {
	fill                 bool
	client, id, deadline int
	text                 string
}

func drawConf(d *draw) api.Conf {
	return api.Conf{Clients: 1 + d.below(8), Queue: 1 + d.below(8), Quantum: 1 + d.below(8), Room: 8 + d.below(57)>>d.below(4), Replicas: 1 + d.below(4)}
}

func drawTransaction(d *draw) string {
	if d.below(2) == 0 {
		return ofCost(1 + d.below(8))
	}
	for {
		if text := drawText(d); isTransaction(text) {
			return text
		}
	}
}

// drawCall: mostly a right one; n is about how many epochs there are.
func drawCall(d *draw, conf api.Conf, n int) call {
	if d.below(conf.Clients*2+2) == 0 {
		return call{fill: true}
	}
	x := call{client: d.below(conf.Clients), id: d.below(1000000), deadline: n + d.below(8) - 1, text: drawTransaction(d)}
	switch d.below(16) {
	case 0:
		x.client = []int{-1, conf.Clients, 8, math.MinInt, math.MaxInt}[d.below(5)]
	case 1:
		x.id = []int{-1, 1000000, math.MinInt, math.MaxInt}[d.below(4)]
	case 2:
		x.text = drawText(d) + []string{"", ";", "x"}[d.below(3)]
	case 3:
		x.deadline = []int{-1, 0, n - 2, math.MinInt, math.MaxInt}[d.below(5)]
	case 4, 5, 6:
		x.id = []int{0, 999999, d.below(30)}[d.below(3)]
	}
	return x
}

// pair is a cluster and the model of it.
type pair struct {
	c *docket.Cluster
	m *model
}

func newPair(t *testing.T, conf api.Conf) pair {
	t.Helper()
	return pair{c: newCluster(t, conf), m: newModel(conf)}
}

// do makes the call on both, and answers what came of it.
func (p pair) do(t *testing.T, x call) api.Errno {
	t.Helper()
	if x.fill {
		count, e := p.c.Fill()
		wantCount, wantE := p.m.fill()
		if count != wantCount || e != wantE {
			t.Fatalf("P8: %+v: Fill of epoch %d = %d, %d, want %d, %d", p.m.conf, len(p.m.epochs), count, e, wantCount, wantE)
		}
		return e
	}
	e := p.c.Submit(x.client, x.id, x.text, x.deadline)
	want := p.m.submit(x.client, x.id, x.text, x.deadline)
	if e != want {
		t.Fatalf("P7: %+v: at %d epochs Submit(%d, %d, %q, %d) = %d, want %d", p.m.conf, len(p.m.epochs), x.client, x.id, x.text, x.deadline, e, want)
	}
	return e
}

func (p pair) lookAtLog(t *testing.T) {
	t.Helper()
	if got, want := p.c.Log(), strings.Join(p.m.epochs, ""); got != want {
		t.Fatalf("P9: %+v: the log of %d epochs is %q, want %q", p.m.conf, len(p.m.epochs), got, want)
	}
}

func (p pair) lookAtReply(t *testing.T, id int) {
	t.Helper()
	got, e := p.c.Reply(id)
	want, wantE := p.m.reply(id)
	if got != want || e != wantE {
		t.Fatalf("P9: %+v: at %d epochs Reply(%d) = %v, %d, want %v, %d", p.m.conf, len(p.m.epochs), id, got, e, want, wantE)
	}
}

func (p pair) lookAtAll(t *testing.T) {
	t.Helper()
	p.lookAtLog(t)
	for id := range p.m.byID {
		p.lookAtReply(t, id)
	}
	for id := -1; id < 30; id++ {
		p.lookAtReply(t, id)
	}
}

func TestClusterDrawnCalls(t *testing.T) {
	d := &draw{state: 5}
	errors := map[api.Errno]int{}
	states := map[api.State]int{}
	for i := 0; i < 150; i++ {
		conf := drawConf(d)
		p := newPair(t, conf)
		for j := 0; j < 300; j++ {
			e := p.do(t, drawCall(d, conf, len(p.m.epochs)))
			errors[e]++
			if d.below(8) == 0 {
				p.lookAtAll(t)
			}
		}
		p.lookAtAll(t)
		for _, x := range p.m.all {
			states[x.reply.State]++
		}
	}
	for _, e := range []api.Errno{api.OK, api.ErrClient, api.ErrID, api.ErrText, api.ErrTwice, api.ErrLate, api.ErrFull} {
		if errors[e] < 200 {
			t.Errorf("of the drawn calls only %d answered %d", errors[e], e)
		}
	}
	for state := api.Waiting; state <= api.Expired; state++ {
		if states[state] < 200 {
			t.Errorf("of the drawn transactions only %d have the state %d", states[state], state)
		}
	}
}

// Up to the last epoch and beyond it.
func TestClusterDrawnCallsToTheEnd(t *testing.T) {
	d := &draw{state: 6}
	for i := 0; i < 4; i++ {
		conf := drawConf(d)
		p := newPair(t, conf)
		for last := 0; last < 10; {
			for j := d.below(6); j > 0; j-- {
				p.do(t, drawCall(d, conf, len(p.m.epochs)))
			}
			if e := p.do(t, call{fill: true}); e == api.ErrMany {
				last++
			}
		}
		p.lookAtAll(t)
	}
}

func TestClustersSideBySide(t *testing.T) {
	d := &draw{state: 7}
	var pairs []pair
	for i := 0; i < 20; i++ {
		pairs = append(pairs, newPair(t, drawConf(d)))
	}
	// Two of the same Conf too.
	pairs = append(pairs, newPair(t, pairs[0].m.conf), newPair(t, pairs[1].m.conf))
	for i := 0; i < 5000; i++ {
		p := pairs[d.below(len(pairs))]
		p.do(t, drawCall(d, p.m.conf, len(p.m.epochs)))
		if d.below(20) == 0 {
			pairs[d.below(len(pairs))].lookAtAll(t)
		}
		if i%1000 == 999 {
			pairs[d.below(len(pairs))] = newPair(t, drawConf(d))
		}
	}
	for _, p := range pairs {
		p.lookAtAll(t)
	}
}

// The same calls, and Log and Reply asked often, seldom or not at all between them: the answers are the same.
func TestClusterHangsOnItsCallsAlone(t *testing.T) {
	d := &draw{state: 8}
	for i := 0; i < 20; i++ {
		conf := drawConf(d)
		never, seldom, often := newCluster(t, conf), newCluster(t, conf), newCluster(t, conf)
		var ids []int
		for j := 0; j < 300; j++ {
			x := drawCall(d, conf, j/(conf.Clients*2+2))
			ids = append(ids, x.id)
			for k := 0; k < 5; k++ {
				often.Log()
				often.Reply(ids[d.below(len(ids))])
				often.Reply(x.id)
			}
			if d.below(30) == 0 {
				seldom.Log()
				seldom.Reply(x.id)
			}
			var counts [3]int
			var errors [3]api.Errno
			for k, c := range []*docket.Cluster{never, seldom, often} {
				if x.fill {
					counts[k], errors[k] = c.Fill()
				} else {
					errors[k] = c.Submit(x.client, x.id, x.text, x.deadline)
				}
			}
			if counts[0] != counts[1] || counts[0] != counts[2] || errors[0] != errors[1] || errors[0] != errors[2] {
				t.Fatalf("P2: %+v: the call %+v answers %v, %v, as Log and Reply were asked not at all, seldom, often", conf, x, counts, errors)
			}
		}
		log := never.Log()
		if seldom.Log() != log || often.Log() != log || never.Log() != log {
			t.Fatalf("P2: %+v: the logs are not the same", conf)
		}
		for _, id := range ids {
			reply, e := never.Reply(id)
			for _, c := range []*docket.Cluster{seldom, often, never} {
				if again, againE := c.Reply(id); again != reply || againE != e {
					t.Fatalf("P2: %+v: Reply(%d) = %v, %d, and %v, %d", conf, id, reply, e, again, againE)
				}
			}
		}
	}
}

// Calls that are refused, strewn in between, change nothing.
func TestClusterErrorsChangeNothing(t *testing.T) {
	d := &draw{state: 9}
	for i := 0; i < 20; i++ {
		conf := drawConf(d)
		plain, strewn := newCluster(t, conf), newCluster(t, conf)
		m := newModel(conf)
		for j := 0; j < 300; j++ {
			x := drawCall(d, conf, len(m.epochs))
			if x.fill {
				m.fill()
				plain.Fill()
				strewn.Fill()
				continue
			}
			if m.submit(x.client, x.id, x.text, x.deadline) == api.OK {
				plain.Submit(x.client, x.id, x.text, x.deadline)
			}
			strewn.Submit(x.client, x.id, x.text, x.deadline)
		}
		if plain.Log() != strewn.Log() {
			t.Fatalf("P1: %+v: the log hangs on calls that were refused", conf)
		}
		for _, x := range m.all {
			reply, e := plain.Reply(x.id)
			if again, againE := strewn.Reply(x.id); again != reply || againE != e {
				t.Fatalf("P1: %+v: Reply(%d) = %v, %d, and with calls that were refused %v, %d", conf, x.id, reply, e, again, againE)
			}
		}
	}
}
