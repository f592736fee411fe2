package replica

import (
	"math"
	"testing"

	"docket/api"
	"docket/epoch"
)

// written: the bytes of the epoch n with one record, which adds 1 to a.
func written(t *testing.T, n int) string {
	t.Helper()
	text, ok := epoch.Write(n, []api.Record{{ID: n, Text: "a|a+1"}})
	if !ok {
		t.Fatalf("Write(%d, ..) refuses", n)
	}
	return text
}

// with: a replica that was brought so many epochs, of which the first are safe.
func with(t *testing.T, safe int, count int) Replica {
	t.Helper()
	var r Replica
	for n := 0; n < count; n++ {
		if n == safe {
			r.Sync()
		}
		if e := r.Take(n, written(t, n)); e != api.OK {
			t.Fatalf("Take(%d, ..) = %d", n, e)
		}
	}
	if safe == count {
		r.Sync()
	}
	return r
}

func TestTakeRefuses(t *testing.T) {
	r := with(t, 1, 3)
	was := r
	for _, c := range []struct {
		n    int
		text string
		want api.Errno
	}{
		{3, "", api.ErrNone}, {3, written(t, 4), api.ErrNone}, {2, written(t, 3), api.ErrNone}, {3, written(t, 3)[1:], api.ErrNone}, {3, written(t, 3)[:9], api.ErrNone}, {-1, "", api.ErrNone}, {200, "", api.ErrNone},
		{0, written(t, 0), api.ErrOld}, {2, written(t, 2), api.ErrOld}, {4, written(t, 4), api.ErrGap}, {199, written(t, 199), api.ErrGap},
	} {
		if e := r.Take(c.n, c.text); e != c.want || r != was {
			t.Errorf("Take(%d, %q) = %d, want %d; the replica is %+v, was %+v", c.n, c.text, e, c.want, r, was)
		}
	}
}

func TestCrashLeaves(t *testing.T) {
	size := len(written(t, 0))
	for _, c := range []struct{ safe, count, keep, left int }{
		{0, 0, 0, 0}, {0, 0, -1, 0}, {0, 0, math.MaxInt, 0}, {0, 0, math.MinInt, 0},
		{0, 3, -1, 0}, {0, 3, 0, 0}, {0, 3, size - 1, 0}, {0, 3, size, 1}, {0, 3, 3*size - 1, 2}, {0, 3, 3 * size, 3}, {0, 3, math.MaxInt, 3},
		{2, 3, math.MinInt, 2}, {2, 3, size - 1, 2}, {2, 3, size, 3}, {2, 3, math.MaxInt, 3}, {2, 3, math.MaxInt - size, 3},
		{3, 3, math.MinInt, 3}, {3, 3, -1, 3}, {3, 3, 0, 3}, {3, 3, math.MaxInt, 3},
	} {
		r := with(t, c.safe, c.count)
		r.Crash(c.keep)
		want := with(t, c.left, c.left)
		if r != want {
			t.Errorf("%+v: the crash leaves %+v, want %+v", c, r, want)
		}
	}
}

// A disk that ends in the midst of an epoch, or is no epochs at all, is read as far as it goes.
func TestStartFrom(t *testing.T) {
	two := written(t, 0) + written(t, 1)
	for _, behind := range []string{"", "x", written(t, 0), written(t, 3), written(t, 2)[:18], "\x00\x02"} {
		if r := startFrom(two + behind); r != with(t, 2, 2) {
			t.Errorf("two epochs and %q: %+v", behind, r)
		}
	}
	for _, bytes := range []string{"", "x", written(t, 1)} {
		if r := startFrom(bytes); r != (Replica{}) {
			t.Errorf("%q: %+v", bytes, r)
		}
	}
}
