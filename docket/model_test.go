package docket_test

import (
	"math"
	"strings"
	"testing"

	"docket/api"
	"docket/docket"
)

// A second reading of the document's cluster, by other means than the program's, to hold a cluster against: all that was ever taken in, in one list; the queues are what still waits of it. A replica is two numbers: what it has and what of it is safe are always whole epochs.

type taken struct {
	client, id, deadline int
	text                 string
	reply                api.Reply
}

type model struct {
	conf   api.Conf
	all    []*taken
	byID   map[int]*taken
	credit map[int]int
	epochs []string
	cells  api.Cells
	// The cells behind so many epochs.
	behind   []api.Cells
	replicas []modelReplica
}

// modelReplica: how many epochs it has, and how many of these are safe.
type modelReplica struct{ has, safe int }

func newModel(conf api.Conf) *model {
	return &model{conf: conf, byID: map[int]*taken{}, credit: map[int]int{}, behind: []api.Cells{{}}, replicas: make([]modelReplica, conf.Replicas)}
}

func (m *model) queue(client int, late bool) []*taken {
	var queue []*taken
	for _, x := range m.all {
		if x.client == client && x.reply.State == api.Waiting && (x.deadline < len(m.epochs)) == late {
			queue = append(queue, x)
		}
	}
	return queue
}

func (m *model) submit(client int, id int, text string, deadline int) api.Errno {
	switch {
	case client < 0 || client >= m.conf.Clients:
		return api.ErrClient
	case id < 0 || id > 999999:
		return api.ErrID
	case !isTransaction(text):
		return api.ErrText
	case m.byID[id] != nil:
		return api.ErrTwice
	case deadline < len(m.epochs):
		return api.ErrLate
	case len(m.queue(client, false))+len(m.queue(client, true)) == m.conf.Queue:
		return api.ErrFull
	}
	x := &taken{client: client, id: id, deadline: deadline, text: text}
	m.all = append(m.all, x)
	m.byID[id] = x
	return api.OK
}

func (m *model) fill() (int, api.Errno) {
	n := len(m.epochs)
	if n == 200 {
		return 0, api.ErrMany
	}
	var records []api.Record
	for client := 0; client < m.conf.Clients; client++ {
		for _, x := range m.queue(client, true) {
			x.reply = api.Reply{State: api.Expired, Epoch: n}
			records = append(records, api.Record{Client: client, ID: x.id, Expired: true})
		}
	}
	room := m.conf.Room
	for i := 0; i < m.conf.Clients; i++ {
		client := (n + i) % m.conf.Clients
		m.credit[client] += m.conf.Quantum
		for _, x := range m.queue(client, false) {
			cost := 1 + strings.Count(x.text, ";")
			if cost > m.credit[client] || cost > room {
				break
			}
			m.credit[client] -= cost
			room -= cost
			x.reply = m.do(x.text, n)
			records = append(records, api.Record{Client: client, ID: x.id, Text: x.text})
		}
		if len(m.queue(client, false)) == 0 {
			delete(m.credit, client)
		}
	}
	frame, _ := expectedFrame(n, records)
	m.epochs = append(m.epochs, frame)
	m.behind = append(m.behind, m.cells)
	return len(records), api.OK
}

func (m *model) do(text string, n int) api.Reply {
	after, done, _ := expected(text, m.cells)
	m.cells = after
	if done {
		return api.Reply{State: api.Done, Epoch: n}
	}
	return api.Reply{State: api.Aborted, Epoch: n}
}

func (m *model) reply(id int) (api.Reply, api.Errno) {
	if x := m.byID[id]; x != nil {
		return x.reply, api.OK
	}
	return api.Reply{}, api.ErrNone
}

func (m *model) replica(replica int) *modelReplica {
	for i := range m.replicas {
		if i == replica {
			return &m.replicas[i]
		}
	}
	return nil
}

func (m *model) send(replica int, n int) api.Errno {
	r := m.replica(replica)
	switch {
	case r == nil:
		return api.ErrReplica
	case n < 0 || n >= len(m.epochs):
		return api.ErrNone
	case n < r.has:
		return api.ErrOld
	case n > r.has:
		return api.ErrGap
	}
	r.has++
	return api.OK
}

func (m *model) sync(replica int) api.Errno {
	r := m.replica(replica)
	if r == nil {
		return api.ErrReplica
	}
	r.safe = r.has
	return api.OK
}

func (m *model) crash(replica int, keep int) api.Errno {
	r := m.replica(replica)
	if r == nil {
		return api.ErrReplica
	}
	for r.safe < r.has && len(m.epochs[r.safe]) <= keep {
		keep -= len(m.epochs[r.safe])
		r.safe++
	}
	r.has = r.safe
	return api.OK
}

func (m *model) get(replica int, key string) (int, api.Errno) {
	r := m.replica(replica)
	if r == nil {
		return 0, api.ErrReplica
	}
	for i, letter := range []string{"a", "b", "c", "d", "e", "f", "g", "h"} {
		if key == letter {
			return int(m.behind[r.has][i]), api.OK
		}
	}
	return 0, api.ErrKey
}

type kind int

const (
	submit kind = iota
	fill
	send
	sync
	crash
)

// call is one of those that may change something; n is Send's epoch, or Crash's keep.
type call struct {
	kind                 kind
	client, id, deadline int
	text                 string
	replica, n           int
}

// on makes the call, and answers what it does.
func (x call) on(c *docket.Cluster) (int, api.Errno) {
	switch x.kind {
	case fill:
		return c.Fill()
	case send:
		return 0, c.Send(x.replica, x.n)
	case sync:
		return 0, c.Sync(x.replica)
	case crash:
		return 0, c.Crash(x.replica, x.n)
	}
	return 0, c.Submit(x.client, x.id, x.text, x.deadline)
}

func (x call) onModel(m *model) (int, api.Errno) {
	switch x.kind {
	case fill:
		return m.fill()
	case send:
		return 0, m.send(x.replica, x.n)
	case sync:
		return 0, m.sync(x.replica)
	case crash:
		return 0, m.crash(x.replica, x.n)
	}
	return 0, m.submit(x.client, x.id, x.text, x.deadline)
}

func drawConf(d *draw) api.Conf {
	return api.Conf{Clients: 1 + d.below(8), Queue: 1 + d.below(8), Quantum: 1 + d.below(8), Room: 8 + d.below(57)>>d.below(4), Replicas: 1 + d.below(4)}
}

func drawTransaction(d *draw) string {
	if d.below(2) == 0 {
		return ofCost(1 + d.below(8))
	}
	for {
		if text := drawText(d); isTransaction(text) {
			return text
		}
	}
}

// drawCall: mostly a right one; n is about how many epochs there are.
func drawCall(d *draw, conf api.Conf, n int) call {
	if d.below(conf.Clients*2+2) == 0 {
		return call{kind: fill}
	}
	x := call{client: d.below(conf.Clients), id: d.below(1000000), deadline: n + d.below(8) - 1, text: drawTransaction(d)}
	switch d.below(16) {
	case 0:
		x.client = []int{-1, conf.Clients, 8, math.MinInt, math.MaxInt}[d.below(5)]
	case 1:
		x.id = []int{-1, 1000000, math.MinInt, math.MaxInt}[d.below(4)]
	case 2:
		x.text = drawText(d) + []string{"", ";", "x"}[d.below(3)]
	case 3:
		x.deadline = []int{-1, 0, n - 2, math.MinInt, math.MaxInt}[d.below(5)]
	case 4, 5, 6:
		x.id = []int{0, 999999, d.below(30)}[d.below(3)]
	}
	return x
}

// drawReplicaCall: mostly one that goes on, at the edges of what is on the disk.
func drawReplicaCall(d *draw, m *model) call {
	x := call{kind: send, replica: d.below(m.conf.Replicas)}
	r := m.replicas[x.replica]
	x.n = r.has
	switch d.below(20) {
	case 0, 1, 2:
		x.n = []int{-1, r.has - 1, r.has + 1, len(m.epochs) - 1, len(m.epochs), d.below(len(m.epochs) + 1), math.MinInt, math.MaxInt}[d.below(8)]
	case 3, 4:
		x.kind = sync
	case 5, 6:
		x.kind = crash
		x.n = drawKeep(d, m, r)
	}
	if d.below(12) == 0 {
		x.replica = []int{-1, m.conf.Replicas, 4, math.MinInt, math.MaxInt}[d.below(5)]
	}
	return x
}

// drawKeep: at the end of one of the epochs that are not safe, or anywhere.
func drawKeep(d *draw, m *model, r modelReplica) int {
	if d.below(6) == 0 {
		return []int{-1, 0, d.below(1000), math.MinInt, math.MaxInt}[d.below(5)]
	}
	keep := d.below(3) - 1
	for n := r.safe; n < r.has && d.below(4) > 0; n++ {
		keep += len(m.epochs[n])
	}
	return keep
}

// drawAnyCall: to the sequencer or to a replica.
func drawAnyCall(d *draw, m *model) call {
	if d.below(2) == 0 {
		return drawReplicaCall(d, m)
	}
	return drawCall(d, m.conf, len(m.epochs))
}

// pair is a cluster and the model of it.
type pair struct {
	c *docket.Cluster
	m *model
}

func newPair(t *testing.T, conf api.Conf) pair {
	t.Helper()
	return pair{c: newCluster(t, conf), m: newModel(conf)}
}

// do makes the call on both, and answers what came of it.
func (p pair) do(t *testing.T, x call) api.Errno {
	t.Helper()
	count, e := x.on(p.c)
	wantCount, want := x.onModel(p.m)
	if count != wantCount || e != want {
		t.Fatalf("%s: %+v: at %d epochs, with the replicas %v: %+v answers %d, %d, want %d, %d", x.kind.promise(), p.m.conf, len(p.m.epochs), p.m.replicas, x, count, e, wantCount, want)
	}
	return e
}

func (k kind) promise() string {
	return []string{"P7", "P8", "P10", "P10", "P11"}[k]
}

func (p pair) lookAtLog(t *testing.T) {
	t.Helper()
	if got, want := p.c.Log(), strings.Join(p.m.epochs, ""); got != want {
		t.Fatalf("P9: %+v: the log of %d epochs is %q, want %q", p.m.conf, len(p.m.epochs), got, want)
	}
}

func (p pair) lookAtReply(t *testing.T, id int) {
	t.Helper()
	got, e := p.c.Reply(id)
	want, wantE := p.m.reply(id)
	if got != want || e != wantE {
		t.Fatalf("P9: %+v: at %d epochs Reply(%d) = %v, %d, want %v, %d", p.m.conf, len(p.m.epochs), id, got, e, want, wantE)
	}
}

func (p pair) lookAtReplica(t *testing.T, replica int) {
	t.Helper()
	r := p.m.replicas[replica]
	want := strings.Join(p.m.epochs[:r.has], "")
	if disk, e := p.c.Disk(replica); disk != want || e != api.OK {
		t.Fatalf("P12: %+v: with %v of %d epochs Disk(%d) = %q, %d, want %q, 0", p.m.conf, r, len(p.m.epochs), replica, disk, e, want)
	}
	if count, e := p.c.Count(replica); count != r.has || e != api.OK {
		t.Fatalf("P12: %+v: with %v of %d epochs Count(%d) = %d, %d", p.m.conf, r, len(p.m.epochs), replica, count, e)
	}
	for _, key := range strings.Split("abcdefgh", "") {
		want, _ := p.m.get(replica, key)
		if cell, e := p.c.Get(replica, key); cell != want || e != api.OK {
			t.Fatalf("P12: %+v: with %v of %d epochs Get(%d, %s) = %d, %d, want %d, 0", p.m.conf, r, len(p.m.epochs), replica, key, cell, e, want)
		}
	}
}

func (p pair) lookAtAll(t *testing.T) {
	t.Helper()
	p.lookAtLog(t)
	for replica := range p.m.replicas {
		p.lookAtReplica(t, replica)
	}
	for id := range p.m.byID {
		p.lookAtReply(t, id)
	}
	for id := -1; id < 30; id++ {
		p.lookAtReply(t, id)
	}
}

func TestClusterDrawnCalls(t *testing.T) {
	d := &draw{state: 5}
	errors := map[api.Errno]int{}
	states := map[api.State]int{}
	for i := 0; i < 150; i++ {
		conf := drawConf(d)
		p := newPair(t, conf)
		for j := 0; j < 300; j++ {
			e := p.do(t, drawCall(d, conf, len(p.m.epochs)))
			errors[e]++
			if d.below(8) == 0 {
				p.lookAtAll(t)
			}
		}
		p.lookAtAll(t)
		for _, x := range p.m.all {
			states[x.reply.State]++
		}
	}
	for _, e := range []api.Errno{api.OK, api.ErrClient, api.ErrID, api.ErrText, api.ErrTwice, api.ErrLate, api.ErrFull} {
		if errors[e] < 200 {
			t.Errorf("of the drawn calls only %d answered %d", errors[e], e)
		}
	}
	for state := api.Waiting; state <= api.Expired; state++ {
		if states[state] < 200 {
			t.Errorf("of the drawn transactions only %d have the state %d", states[state], state)
		}
	}
}

// Up to the last epoch and beyond it.
func TestClusterDrawnCallsToTheEnd(t *testing.T) {
	d := &draw{state: 6}
	for i := 0; i < 4; i++ {
		conf := drawConf(d)
		p := newPair(t, conf)
		for last := 0; last < 10; {
			for j := d.below(6); j > 0; j-- {
				p.do(t, drawCall(d, conf, len(p.m.epochs)))
			}
			if e := p.do(t, call{kind: fill}); e == api.ErrMany {
				last++
			}
		}
		p.lookAtAll(t)
	}
}

func TestClustersSideBySide(t *testing.T) {
	d := &draw{state: 7}
	var pairs []pair
	for i := 0; i < 20; i++ {
		pairs = append(pairs, newPair(t, drawConf(d)))
	}
	// Two of the same Conf too.
	pairs = append(pairs, newPair(t, pairs[0].m.conf), newPair(t, pairs[1].m.conf))
	for i := 0; i < 10000; i++ {
		p := pairs[d.below(len(pairs))]
		p.do(t, drawAnyCall(d, p.m))
		if d.below(20) == 0 {
			pairs[d.below(len(pairs))].lookAtAll(t)
		}
		if i%1000 == 999 {
			pairs[d.below(len(pairs))] = newPair(t, drawConf(d))
		}
	}
	for _, p := range pairs {
		p.lookAtAll(t)
	}
}

// sameAnswers: what the clusters tell of these transactions, of the log and of the replicas is the same, and stays so when it is asked again.
func sameAnswers(t *testing.T, promise string, conf api.Conf, ids []int, clusters ...*docket.Cluster) {
	t.Helper()
	one := clusters[0]
	log := one.Log()
	for _, c := range append(clusters, clusters...) {
		if c.Log() != log {
			t.Fatalf("%s: %+v: the logs are not the same", promise, conf)
		}
		for _, id := range ids {
			reply, e := one.Reply(id)
			if again, againE := c.Reply(id); again != reply || againE != e {
				t.Fatalf("%s: %+v: Reply(%d) = %v, %d, and %v, %d", promise, conf, id, reply, e, again, againE)
			}
		}
		sameReplicas(t, promise, conf, one, c)
	}
}

func sameReplicas(t *testing.T, promise string, conf api.Conf, one *docket.Cluster, other *docket.Cluster) {
	t.Helper()
	for replica := -1; replica <= conf.Replicas; replica++ {
		disk, e := one.Disk(replica)
		if again, againE := other.Disk(replica); again != disk || againE != e {
			t.Fatalf("%s: %+v: Disk(%d) = %q, %d, and %q, %d", promise, conf, replica, disk, e, again, againE)
		}
		count, e := one.Count(replica)
		if again, againE := other.Count(replica); again != count || againE != e {
			t.Fatalf("%s: %+v: Count(%d) = %d, %d, and %d, %d", promise, conf, replica, count, e, again, againE)
		}
		for _, key := range []string{"a", "b", "c", "d", "e", "f", "g", "h", "i", ""} {
			cell, e := one.Get(replica, key)
			if again, againE := other.Get(replica, key); again != cell || againE != e {
				t.Fatalf("%s: %+v: Get(%d, %q) = %d, %d, and %d, %d", promise, conf, replica, key, cell, e, again, againE)
			}
		}
	}
}

// ask asks for all that changes nothing.
func ask(c *docket.Cluster, id int, replica int) {
	c.Log()
	c.Reply(id)
	c.Disk(replica)
	c.Count(replica)
	for _, key := range []string{"a", "d", "h", "i", ""} {
		c.Get(replica, key)
	}
}

// The same calls, and Log, Reply, Disk, Count and Get asked often, seldom or not at all between them: the answers are the same.
func TestClusterHangsOnItsCallsAlone(t *testing.T) {
	d := &draw{state: 8}
	for i := 0; i < 20; i++ {
		conf := drawConf(d)
		m := newModel(conf)
		never, seldom, often := newCluster(t, conf), newCluster(t, conf), newCluster(t, conf)
		var ids []int
		for j := 0; j < 500; j++ {
			x := drawAnyCall(d, m)
			x.onModel(m)
			ids = append(ids, x.id)
			for k := 0; k < 5; k++ {
				ask(often, ids[d.below(len(ids))], d.below(6)-1)
				ask(often, x.id, x.replica)
			}
			if d.below(30) == 0 {
				ask(seldom, x.id, x.replica)
			}
			var counts [3]int
			var errors [3]api.Errno
			for k, c := range []*docket.Cluster{never, seldom, often} {
				counts[k], errors[k] = x.on(c)
			}
			if counts[0] != counts[1] || counts[0] != counts[2] || errors[0] != errors[1] || errors[0] != errors[2] {
				t.Fatalf("P2: %+v: the call %+v answers %v, %v, as there were asked not at all, seldom, often", conf, x, counts, errors)
			}
		}
		sameAnswers(t, "P2", conf, ids, never, seldom, often)
	}
}

// Calls that are refused, strewn in between, change nothing.
func TestClusterErrorsChangeNothing(t *testing.T) {
	d := &draw{state: 9}
	for i := 0; i < 20; i++ {
		conf := drawConf(d)
		plain, strewn := newCluster(t, conf), newCluster(t, conf)
		m := newModel(conf)
		var ids []int
		for j := 0; j < 600; j++ {
			x := drawAnyCall(d, m)
			ids = append(ids, x.id)
			if _, e := x.onModel(m); e == api.OK {
				x.on(plain)
			}
			x.on(strewn)
		}
		sameAnswers(t, "P1", conf, ids, plain, strewn)
	}
}
