package docket_test

import (
	"math"
	"strings"
	"testing"

	"docket/api"
	"docket/docket"
)

const longest = "abcdefgh|a=-12345;a=-12345;a=-12345;a=-12345;a=-12345;a=-123"

func wantFrame(t *testing.T, n int, records []api.Record, want string) {
	t.Helper()
	got, e := docket.Frame(n, records)
	if got != want || e != api.OK {
		t.Errorf("P4: Frame(%d, %.200v) = %v, %d, want %v", n, records, []byte(got), e, []byte(want))
	}
}

func wantErrRecord(t *testing.T, n int, records []api.Record) {
	t.Helper()
	got, e := docket.Frame(n, records)
	if got != "" || e != api.ErrRecord {
		t.Errorf("P4: Frame(%d, %.200v) = %v, %d, want nothing, ErrRecord", n, records, []byte(got), e)
	}
}

// wantWritten: a record is written, whether it stands alone, ahead of others or behind them.
func wantWritten(t *testing.T, r api.Record, want string) {
	t.Helper()
	other := api.Record{Client: 2, ID: 3, Text: "|a=1"}
	otherBytes := bytesOf(2, 0, 0, 3, 0, 4) + "|a=1"
	wantFrame(t, 4, []api.Record{r}, sealed(bytesOf(4, 1)+want))
	wantFrame(t, 4, []api.Record{r, other}, sealed(bytesOf(4, 2)+want+otherBytes))
	wantFrame(t, 4, []api.Record{other, other, r}, sealed(bytesOf(4, 3)+otherBytes+otherBytes+want))
}

// wantRefused: a record is refused, wherever it stands.
func wantRefused(t *testing.T, r api.Record) {
	t.Helper()
	wantErrRecord(t, 0, []api.Record{r})
	for _, length := range []int{2, 3, 64} {
		for _, at := range []int{0, 1, length / 2, length - 1} {
			records := times(length, api.Record{Text: "a|a=1"})
			records[at] = r
			wantErrRecord(t, 0, records)
		}
	}
}

func times(count int, r api.Record) []api.Record {
	records := make([]api.Record, count)
	for i := range records {
		records[i] = r
	}
	return records
}

func TestFrameExample(t *testing.T) {
	wantFrame(t, 0, nil, bytesOf(0, 2, 0, 0, 17, 118, 151, 205))
	wantFrame(t, 0, []api.Record{}, bytesOf(0, 2, 0, 0, 17, 118, 151, 205))
}

// The sums stand here as numbers, so that the second reading is held to something too.
func TestFrameWhole(t *testing.T) {
	wantFrame(t, 3, []api.Record{{Client: 1, ID: 2, Text: "a|a=1"}}, bytesOf(0, 13, 3, 1, 1, 0, 0, 2, 0, 5, 'a', '|', 'a', '=', '1', 254, 107, 15, 89))
	wantFrame(t, 199, []api.Record{{Client: 7, ID: 999999, Expired: true}}, bytesOf(0, 8, 199, 1, 7, 15, 66, 63, 1, 0, 27, 140, 54, 165))
}

func TestFrameNumbers(t *testing.T) {
	for n := 0; n <= 199; n++ {
		wantFrame(t, n, nil, sealed(bytesOf(byte(n), 0)))
		wantFrame(t, n, []api.Record{{Expired: true}}, sealed(bytesOf(byte(n), 1, 0, 0, 0, 0, 1, 0)))
	}
	for _, n := range []int{-1, -200, 200, 201, 255, 256, 257, 65536, 1 << 32, math.MinInt, math.MinInt32, math.MaxInt32, math.MaxInt} {
		wantErrRecord(t, n, nil)
		wantErrRecord(t, n, []api.Record{{Text: "a|a=1"}})
		wantErrRecord(t, n, []api.Record{{Text: "a|a="}})
	}
}

func TestFrameHowManyRecords(t *testing.T) {
	for count := 0; count <= 64; count++ {
		wantFrame(t, 0, times(count, api.Record{Expired: true}), sealed(bytesOf(0, byte(count))+strings.Repeat(bytesOf(0, 0, 0, 0, 1, 0), count)))
		wantFrame(t, 9, times(count, api.Record{Client: 5, ID: 1, Text: longest}), sealed(bytesOf(9, byte(count))+strings.Repeat(bytesOf(5, 0, 0, 1, 0, 60)+longest, count)))
	}
	for _, count := range []int{65, 66, 128, 255, 256, 257, 320, 65536} {
		wantErrRecord(t, 0, times(count, api.Record{Expired: true}))
		wantErrRecord(t, 0, times(count, api.Record{Text: "a|a=1"}))
	}
}

func TestFrameClients(t *testing.T) {
	for client := 0; client <= 7; client++ {
		wantWritten(t, api.Record{Client: client, Expired: true}, bytesOf(byte(client), 0, 0, 0, 1, 0))
		wantWritten(t, api.Record{Client: client, Text: "a|a=1"}, bytesOf(byte(client), 0, 0, 0, 0, 5)+"a|a=1")
	}
	for _, client := range []int{-1, -8, 8, 9, 255, 256, 257, 1 << 32, math.MinInt, math.MaxInt} {
		wantRefused(t, api.Record{Client: client, Expired: true})
		wantRefused(t, api.Record{Client: client, Text: "a|a=1"})
	}
}

func TestFrameIDs(t *testing.T) {
	for _, c := range []struct {
		id   int
		want string
	}{
		{0, bytesOf(0, 0, 0)}, {1, bytesOf(0, 0, 1)}, {255, bytesOf(0, 0, 255)}, {256, bytesOf(0, 1, 0)}, {66051, bytesOf(1, 2, 3)},
		{65535, bytesOf(0, 255, 255)}, {65536, bytesOf(1, 0, 0)}, {999998, bytesOf(15, 66, 62)}, {999999, bytesOf(15, 66, 63)},
	} {
		wantWritten(t, api.Record{ID: c.id, Expired: true}, bytesOf(0)+c.want+bytesOf(1, 0))
		wantWritten(t, api.Record{ID: c.id, Text: "a|a=1"}, bytesOf(0)+c.want+bytesOf(0, 5)+"a|a=1")
	}
	for _, id := range []int{-1, -999999, 1000000, 1000001, 1 << 24, 1<<24 + 1, 1 << 32, math.MinInt, math.MaxInt} {
		wantRefused(t, api.Record{ID: id, Expired: true})
		wantRefused(t, api.Record{ID: id, Text: "a|a=1"})
	}
}

func TestFrameTwoRecordsMayBeTheSame(t *testing.T) {
	same := bytesOf(0, 0, 0, 5, 0, 5) + "a|a=1"
	wantFrame(t, 1, []api.Record{{ID: 5, Text: "a|a=1"}, {ID: 5, Text: "a|a=1"}}, sealed(bytesOf(1, 2)+same+same))
}

func TestFrameTexts(t *testing.T) {
	for _, text := range []string{"|a=1", "a|a=1", "|b~0", "ab|a=5;b+a;b*b", "a|a+1;a+1;a+1;a+1;a+1;a+1;a+1;a+1", "a|a=-32768", "a|a=32767", longest} {
		wantWritten(t, api.Record{Client: 1, ID: 2, Text: text}, bytesOf(1, 0, 0, 2, 0, byte(len(text)))+text)
		wantRefused(t, api.Record{Client: 1, ID: 2, Expired: true, Text: text})
	}
	for _, text := range []string{
		"", "|", "a|", "a", "ba|a=1", "aa|a=1", "a|a=01", "a|a=-0", "a|a=32768", "a|a=-32769", "a|a=1;", "a| a=1", "i|i=1", "a|a=x",
		"a|a+1;a+1;a+1;a+1;a+1;a+1;a+1;a+1;a+1", longest + "4", strings.Repeat("a", 256), strings.Repeat("a", 261), "a|a=1\x00",
	} {
		wantRefused(t, api.Record{Client: 1, ID: 2, Text: text})
		if text != "" {
			wantRefused(t, api.Record{Client: 1, ID: 2, Expired: true, Text: text})
		}
	}
	wantWritten(t, api.Record{Client: 1, ID: 2, Expired: true}, bytesOf(1, 0, 0, 2, 1, 0))
}

func TestFrameDrawn(t *testing.T) {
	d := &draw{state: 2}
	written, refused := 0, 0
	for i := 0; i < 20000; i++ {
		n, records := d.below(200), drawRecords(d)
		if len(records) > 0 && d.below(2) == 0 {
			at := d.below(len(records))
			records[at] = spoil(d, records[at])
		}
		if d.below(20) == 0 {
			n = []int{-1, 200, 256, math.MinInt, math.MaxInt}[d.below(5)]
		}
		want, wantErr := expectedFrame(n, records)
		got, e := docket.Frame(n, records)
		if got != want || e != wantErr {
			t.Fatalf("P4: Frame(%d, %v) = %v, %d, want %v, %d", n, records, []byte(got), e, []byte(want), wantErr)
		}
		if e == api.OK {
			written++
		} else {
			refused++
		}
	}
	if written < 5000 || refused < 5000 {
		t.Errorf("of the drawn epochs %d were written, %d refused: too few of one kind", written, refused)
	}
}

// listWithRoom: five records, and behind them spare room with five more.
func listWithRoom() []api.Record {
	whole := []api.Record{
		{Client: 1, ID: 2, Text: "a|a=1"},
		{Client: 3, ID: 4, Expired: true},
		{Client: 7, ID: 999999, Text: "ab|a=5;b+a;b*b"},
		{Client: 2, ID: 1, Text: longest},
		{Client: 0, ID: 0, Expired: true},
		{Client: 5, ID: 6, Text: "what stands behind the list"},
		{Client: 8, ID: -1, Expired: true, Text: "and this"},
		{},
		{Client: 1, ID: 1, Text: "a|a=1"},
		{Client: 9, ID: 9, Text: "the last"},
	}
	return whole
}

func TestFrameLeavesItsListAlone(t *testing.T) {
	whole, was := listWithRoom(), listWithRoom()
	for _, n := range []int{0, 7, 199, 200, -1} {
		for from := 0; from <= len(whole); from++ {
			for to := from; to <= len(whole); to++ {
				docket.Frame(n, whole[from:to])
				for i := range whole {
					if whole[i] != was[i] {
						t.Fatalf("P2: Frame(%d, ..) wrote into its list, or beside it, at %d: %v", n, i-from, whole[i])
					}
				}
			}
		}
	}
}

func TestFrameKeepsNoList(t *testing.T) {
	list := listWithRoom()[:5]
	first, _ := docket.Frame(3, list)
	was := strings.Clone(first)
	for i := range list {
		list[i] = api.Record{Client: 6, ID: i, Text: "h|h=7"}
	}
	want, _ := expectedFrame(4, list)
	wantFrame(t, 4, list, want)
	if first != was {
		t.Errorf("P2: what Frame answered has changed with the list: %v, and then %v", []byte(was), []byte(first))
	}
	wantFrame(t, 3, listWithRoom()[:5], was)
}

func TestFrameHangsOnItsArgumentsAlone(t *testing.T) {
	lists := [][]api.Record{nil, {}, {{Text: "a|a=1"}}, {{Expired: true}}, {{Text: "a|a="}}, listWithRoom()[:5], listWithRoom(), times(64, api.Record{Text: longest}), times(65, api.Record{Expired: true})}
	for _, n := range []int{0, 1, 199, 200} {
		for _, list := range lists {
			first, firstErr := docket.Frame(n, list)
			for _, between := range lists {
				docket.Frame(5, between)
				docket.Scan(first)
				docket.Apply("a|a=1", rising)
				again, againErr := docket.Frame(n, list)
				if again != first || againErr != firstErr {
					t.Errorf("P2: Frame(%d, %v) = %v, %d, and later %v, %d", n, list, []byte(first), firstErr, []byte(again), againErr)
				}
			}
		}
	}
}
