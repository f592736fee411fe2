package epoch

import (
	"reflect"
	"testing"

	"docket/api"
)

func TestReadAnswersWhatWasWritten(t *testing.T) {
	for n, records := range [][]api.Record{
		nil,
		{{Client: 1, ID: 2, Text: "a|a=1"}},
		{{Client: 7, ID: 999999, Expired: true}, {ID: 66051, Text: "|a=1"}, {Client: 3, ID: 256, Text: "ab|a=5;b+a;b*b"}},
	} {
		text, ok := Write(n, records)
		if !ok {
			t.Fatalf("Write(%d, %v) refuses", n, records)
		}
		for _, behind := range []string{"", "x", text} {
			read, rest, ok := Read(n, text+behind)
			if !ok || !reflect.DeepEqual(read, records) || rest != behind {
				t.Errorf("Read(%d, ..) = %v, %q, %v, want %v, %q", n, read, rest, ok, records, behind)
			}
		}
	}
}

func TestReadRefuses(t *testing.T) {
	text, _ := Write(3, []api.Record{{Client: 1, ID: 2, Text: "a|a=1"}})
	for _, n := range []int{-1, 0, 2, 4, 200, 259} {
		if records, rest, ok := Read(n, text); ok || records != nil || rest != "" {
			t.Errorf("Read(%d, the epoch 3) = %v, %q, %v, want nothing", n, records, rest, ok)
		}
	}
	for at := 0; at < len(text); at++ {
		if records, rest, ok := Read(3, text[:at]); ok || records != nil || rest != "" {
			t.Errorf("Read(3, %d bytes of the epoch) = %v, %q, %v, want nothing", at, records, rest, ok)
		}
	}
	if records, rest, ok := Read(200, seal("\xc8\x00")); ok || records != nil || rest != "" {
		t.Errorf("Read(200, ..) = %v, %q, %v, want nothing", records, rest, ok)
	}
}

func TestWriteRefuses(t *testing.T) {
	for _, c := range []struct {
		n       int
		records []api.Record
	}{
		{-1, nil}, {200, nil}, {0, make([]api.Record, 1)}, {0, []api.Record{{Expired: true, Text: "a|a=1"}}}, {0, []api.Record{{Client: 8, Expired: true}}},
	} {
		if text, ok := Write(c.n, c.records); ok || text != "" {
			t.Errorf("Write(%d, %v) = %q, %v, want nothing", c.n, c.records, text, ok)
		}
	}
}

func TestDo(t *testing.T) {
	was := api.Cells{5, 6}
	for _, c := range []struct {
		r     api.Record
		after api.Cells
		state api.State
	}{
		{api.Record{Text: "ab|a+b"}, api.Cells{11, 6}, api.Done},
		{api.Record{Text: "a|a~5"}, was, api.Done},
		{api.Record{Text: "a|a=1;a~5"}, was, api.Aborted},
		{api.Record{Text: "a|a=1;b=1"}, was, api.Aborted},
		{api.Record{Expired: true}, was, api.Expired},
		{api.Record{Expired: true, Text: "a|a=1"}, was, api.Expired},
		{api.Record{Text: ""}, was, api.Aborted},
		{api.Record{Text: "a|a=1;"}, was, api.Aborted},
	} {
		after, state := Do(c.r, was)
		if after != c.after || state != c.state {
			t.Errorf("Do(%+v, %v) = %v, %d, want %v, %d", c.r, was, after, state, c.after, c.state)
		}
	}
}
