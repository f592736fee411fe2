package docket_test

import (
	"testing"

	"docket/api"
	"docket/docket"
)

func TestReplicasDrawnCalls(t *testing.T) {
	d := &draw{state: 10}
	errors := map[kind]map[api.Errno]int{send: {}, sync: {}, crash: {}}
	lost, kept := 0, 0
	for i := 0; i < 150; i++ {
		p := newPair(t, drawConf(d))
		for j := 0; j < 400; j++ {
			x := drawAnyCall(d, p.m)
			r := p.m.replica(x.replica)
			had := modelReplica{}
			if r != nil {
				had = *r
			}
			e := p.do(t, x)
			if x.kind >= send {
				errors[x.kind][e]++
			}
			if x.kind == crash && e == api.OK && had.has > r.has {
				lost++
			}
			if x.kind == crash && e == api.OK && had.safe < r.has {
				kept++
			}
			if d.below(8) == 0 {
				p.lookAtAll(t)
			}
		}
		p.lookAtAll(t)
	}
	for _, want := range []struct {
		kind kind
		e    api.Errno
	}{{send, api.OK}, {send, api.ErrReplica}, {send, api.ErrNone}, {send, api.ErrOld}, {send, api.ErrGap}, {sync, api.OK}, {sync, api.ErrReplica}, {crash, api.OK}, {crash, api.ErrReplica}} {
		if count := errors[want.kind][want.e]; count < 100 {
			t.Errorf("%s: of the drawn calls only %d answered %d", want.kind.promise(), count, want.e)
		}
	}
	if lost < 100 || kept < 100 {
		t.Errorf("of the drawn crashes only %d lost an epoch, and %d kept one that was not safe", lost, kept)
	}
}

// Up to the last epoch, with the replicas following.
func TestReplicasDrawnCallsToTheEnd(t *testing.T) {
	d := &draw{state: 11}
	for i := 0; i < 4; i++ {
		p := newPair(t, drawConf(d))
		for len(p.m.epochs) < 200 {
			for j := d.below(10); j > 0; j-- {
				p.do(t, drawAnyCall(d, p.m))
			}
			p.do(t, call{kind: fill})
		}
		for j := 0; j < 1500; j++ {
			p.do(t, drawReplicaCall(d, p.m))
		}
		p.lookAtAll(t)
		for replica := range p.m.replicas {
			for n := p.m.replicas[replica].has; n < 200; n++ {
				p.do(t, call{kind: send, replica: replica, n: n})
			}
			p.do(t, call{kind: send, replica: replica, n: 199})
			p.do(t, call{kind: send, replica: replica, n: 200})
			p.lookAtReplica(t, replica)
			p.do(t, call{kind: crash, replica: replica, n: 1 << 30})
			p.lookAtReplica(t, replica)
		}
	}
}

// What the sequencer answers does not hang on what becomes of the replicas, nor on how many there are.
func TestSequencerHangsNotOnReplicas(t *testing.T) {
	d := &draw{state: 12}
	for i := 0; i < 20; i++ {
		conf := drawConf(d)
		more := conf
		more.Replicas = 1 + conf.Replicas%4
		m := newModel(conf)
		alone, beside, other := newCluster(t, conf), newCluster(t, conf), newCluster(t, more)
		for j := 0; j < 500; j++ {
			x := drawAnyCall(d, m)
			want, wantE := x.onModel(m)
			if x.kind >= send {
				x.on(beside)
				ask(beside, x.id, x.replica)
				continue
			}
			for _, c := range []*docket.Cluster{alone, beside, other} {
				if count, e := x.on(c); count != want || e != wantE {
					t.Fatalf("P2: %+v: %+v answers %d, %d, want %d, %d", conf, x, count, e, want, wantE)
				}
			}
		}
		log := alone.Log()
		if beside.Log() != log || other.Log() != log {
			t.Fatalf("P2: %+v: the log hangs on the replicas", conf)
		}
		for id := range m.byID {
			reply, e := alone.Reply(id)
			for _, c := range []*docket.Cluster{beside, other} {
				if again, againE := c.Reply(id); again != reply || againE != e {
					t.Fatalf("P2: %+v: Reply(%d) = %v, %d, and %v, %d with other replicas", conf, id, reply, e, again, againE)
				}
			}
		}
	}
}

// What a replica answers hangs on the epochs that it was sent, not on when they were filled or what else was.
func TestReplicasHangNotOnTheSequencer(t *testing.T) {
	d := &draw{state: 13}
	for i := 0; i < 20; i++ {
		conf := drawConf(d)
		m := newModel(conf)
		soon, late := newCluster(t, conf), newCluster(t, conf)
		var later []call
		for j := 0; j < 500; j++ {
			x := drawAnyCall(d, m)
			_, e := x.onModel(m)
			x.on(soon)
			if x.kind < send {
				x.on(late)
			} else if e == api.OK {
				later = append(later, x)
			}
		}
		for j := 0; j < 3; j++ {
			late.Fill()
			late.Submit(0, 777777, "abcdefgh|a+1;b+1;c+1;d+1;e+1;f+1;g+1;h+1", far)
		}
		for _, x := range later {
			if _, e := x.on(late); e != api.OK {
				t.Fatalf("P10, P11: %+v: %+v = %d, when all epochs are there", conf, x, e)
			}
		}
		sameReplicas(t, "P2", conf, soon, late)
	}
}
