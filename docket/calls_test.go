package docket_test

import (
	"math"
	"strings"
	"testing"

	"docket/api"
	"docket/docket"
)

var oddNumbers = []int{math.MinInt, math.MinInt32, -32769, -1, 0, 1, 3, 7, 8, 9, 63, 64, 65, 199, 200, 999999, 1000000, math.MaxInt32, math.MaxInt}

var oddTexts = []string{
	"", "|", ";", "a", "a|", "a|a", "a|a=", "a|a=-", "a|a=1", "a|a=1;", "|;", "|-", "|a--", "\x00", "\xff\xfe", "é", "a|a=99999999999999999999",
	strings.Repeat("|", 60), strings.Repeat(";", 61), strings.Repeat("\x00", 1000), strings.Repeat("a|a=1;", 1000000),
}

func TestApplyEndsAtOddTexts(t *testing.T) {
	for _, text := range oddTexts {
		for _, was := range []api.Cells{{}, rising, {-32768, 32767, -32768, 32767, -32768, 32767, -32768, 32767}} {
			got, done, e := docket.Apply(text, was)
			if e != api.OK && (got != was || done) {
				t.Errorf("P1: Apply(%.40q, %v) = %v, %v, %d: with an error there is nothing but the cells as they were", text, was, got, done, e)
			}
		}
	}
}

func TestFrameAndScanEndAtOddArguments(t *testing.T) {
	for _, text := range oddTexts {
		docket.Scan(text)
		for _, n := range oddNumbers {
			for _, expired := range []bool{false, true} {
				frame, e := docket.Frame(n, []api.Record{{Client: n, ID: n, Expired: expired, Text: text}})
				if e != api.OK && frame != "" {
					t.Errorf("P1: Frame(%d, ..) = %.40q, %d: with an error there is nothing", n, frame, e)
				}
			}
		}
	}
	docket.Frame(0, nil)
	docket.Frame(0, make([]api.Record, 100000))
}

func TestClusterEndsAtOddArguments(t *testing.T) {
	for _, n := range oddNumbers {
		for _, conf := range []api.Conf{
			{Clients: n, Queue: n, Quantum: n, Room: n, Replicas: n},
			{Clients: n, Queue: 1, Quantum: 1, Room: 8, Replicas: 1},
			{Clients: 1, Queue: n, Quantum: 1, Room: 8, Replicas: 1},
			{Clients: 1, Queue: 1, Quantum: n, Room: 8, Replicas: 1},
			{Clients: 1, Queue: 1, Quantum: 1, Room: n, Replicas: 1},
			{Clients: 1, Queue: 1, Quantum: 1, Room: 8, Replicas: n},
		} {
			c, e := docket.New(conf)
			if e != api.OK && c != nil {
				t.Errorf("P1: New(%v) answers a cluster and %d: with an error there is nothing", conf, e)
			}
			if c != nil {
				callAtOddArguments(t, c)
			}
		}
	}
}

func callAtOddArguments(t *testing.T, c *docket.Cluster) {
	t.Helper()
	for _, n := range oddNumbers {
		for _, text := range oddTexts {
			c.Submit(n, n, text, n)
			c.Submit(0, n, text, n)
			if cell, e := c.Get(n, text); e != api.OK && cell != 0 {
				t.Errorf("P1: Get(%d, %.40q) = %d, %d: with an error there is nothing", n, text, cell, e)
			}
		}
		if count, e := c.Fill(); e != api.OK && count != 0 {
			t.Errorf("P1: Fill() = %d, %d: with an error there is nothing", count, e)
		}
		if reply, e := c.Reply(n); e != api.OK && reply != (api.Reply{}) {
			t.Errorf("P1: Reply(%d) = %v, %d: with an error there is nothing", n, reply, e)
		}
		for _, m := range oddNumbers {
			c.Send(n, m)
			c.Crash(n, m)
		}
		c.Sync(n)
		if disk, e := c.Disk(n); e != api.OK && disk != "" {
			t.Errorf("P1: Disk(%d) = %.40q, %d: with an error there is nothing", n, disk, e)
		}
		if count, e := c.Count(n); e != api.OK && count != 0 {
			t.Errorf("P1: Count(%d) = %d, %d: with an error there is nothing", n, count, e)
		}
	}
	c.Log()
}

func TestApplyHangsOnItsArgumentsAlone(t *testing.T) {
	texts := []string{"ab|a+5;b+a;b*b", "a|a=5;b+a", "ab|a=9;b=9;a~8", "a|a=01", "abcdefgh|a=b;b=c;c=d;d=e;e=f;f=g;g=h;h=0", "a|a=9;a=x", "", "h|h*h"}
	for _, text := range texts {
		was := rising
		first, firstDone, firstErr := docket.Apply(text, was)
		if was != rising {
			t.Fatalf("P2: Apply(%q, ..) wrote into the cells that it was handed", text)
		}
		for _, between := range texts {
			docket.Apply(between, first)
			again, againDone, againErr := docket.Apply(text, was)
			if again != first || againDone != firstDone || againErr != firstErr {
				t.Errorf("P2: Apply(%q, %v) = %v, %v, %d, and behind Apply(%q, ..) %v, %v, %d", text, was, first, firstDone, firstErr, between, again, againDone, againErr)
			}
		}
	}
}
