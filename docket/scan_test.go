package docket_test

import (
	"strings"
	"testing"

	"docket/api"
	"docket/docket"
)

func wantScan(t *testing.T, what string, log string, n int, size int) {
	t.Helper()
	gotN, gotSize := docket.Scan(log)
	if gotN != n || gotSize != size {
		t.Errorf("P5: Scan of %s = %d, %d, want %d, %d", what, gotN, gotSize, n, size)
	}
}

// emptyEpochs: the epochs of these numbers, without records, 8 bytes each.
func emptyEpochs(numbers ...int) string {
	log := ""
	for _, n := range numbers {
		log += sealed(bytesOf(byte(n), 0))
	}
	return log
}

func upTo(count int) []int {
	var numbers []int
	for n := 0; n < count; n++ {
		numbers = append(numbers, n)
	}
	return numbers
}

// threeEpochs: the epochs 0, 1 and 2, with 2, 0 and 3 records.
func threeEpochs() []string {
	return []string{
		sealed(bytesOf(0, 2, 1, 0, 0, 2, 0, 5) + "a|a=1" + bytesOf(7, 15, 66, 63, 1, 0)),
		sealed(bytesOf(1, 0)),
		sealed(bytesOf(2, 3, 0, 1, 2, 3, 0, 60) + longest + bytesOf(3, 0, 0, 0, 0, 4) + "|b~0" + bytesOf(0, 0, 1, 0, 1, 0)),
	}
}

func TestScanExample(t *testing.T) {
	zero := bytesOf(0, 2, 0, 0, 17, 118, 151, 205)
	wantScan(t, "an empty epoch 0", zero, 1, 8)
	wantScan(t, "it twice", zero+zero, 1, 8)
	wantScan(t, "its first 7 bytes", zero[:7], 0, 0)
	wantScan(t, "nothing", "", 0, 0)
	wantScan(t, "it with x behind", zero+"x", 1, 8)
}

func TestScanWhatFrameWrites(t *testing.T) {
	lists := [][]api.Record{
		nil,
		{{Client: 1, ID: 2, Text: "a|a=1"}},
		{{Client: 7, ID: 999999, Expired: true}},
		times(64, api.Record{Client: 5, ID: 66051, Text: longest}),
		{{ID: 5, Text: "a|a=1"}, {ID: 5, Text: "a|a=1"}},
		times(64, api.Record{Expired: true}),
		{{Text: "|b~0"}},
	}
	log := ""
	for n, list := range lists {
		frame, e := docket.Frame(n, list)
		if e != api.OK {
			t.Fatalf("P4: Frame(%d, %v) answers %d", n, list, e)
		}
		log += frame
		wantScan(t, "what Frame wrote", log, n+1, len(log))
	}
}

func TestScanHowManyEpochs(t *testing.T) {
	for count := 0; count <= 200; count++ {
		wantScan(t, "empty epochs", emptyEpochs(upTo(count)...), count, 8*count)
	}
	full := emptyEpochs(upTo(200)...)
	wantScan(t, "200 epochs and one more", full+emptyEpochs(200), 200, 1600)
	wantScan(t, "256 epochs", emptyEpochs(upTo(256)...), 200, 1600)
	wantScan(t, "200 epochs twice", full+full, 200, 1600)
	wantScan(t, "200 epochs and bytes behind", full+"x", 200, 1600)
}

func TestScanEpochsOutOfOrder(t *testing.T) {
	for _, c := range []struct {
		numbers []int
		n       int
	}{
		{[]int{0, 0}, 1}, {[]int{1}, 0}, {[]int{1, 0}, 0}, {[]int{0, 2}, 1}, {[]int{0, 2, 1}, 1}, {[]int{0, 1, 0}, 2}, {[]int{0, 1, 1, 2}, 2},
		{[]int{0, 1, 2, 4}, 3}, {[]int{0, 1, 2, 2, 3}, 3}, {[]int{199}, 0}, {[]int{200}, 0}, {[]int{255}, 0}, {[]int{0, 255}, 1},
	} {
		wantScan(t, "epochs out of their order", emptyEpochs(c.numbers...), c.n, 8*c.n)
	}
	e := threeEpochs()
	wantScan(t, "the epochs 0, 2, 1", e[0]+e[2]+e[1], 1, len(e[0]))
	wantScan(t, "the epochs 1, 0, 2", e[1]+e[0]+e[2], 0, 0)
	wantScan(t, "the epoch 2 twice", e[0]+e[1]+e[2]+e[2], 3, len(e[0]+e[1]+e[2]))
}

func TestScanCutLog(t *testing.T) {
	e := threeEpochs()
	log := strings.Join(e, "")
	for at := 0; at <= len(log); at++ {
		n, size := 0, 0
		for n < len(e) && size+len(e[n]) <= at {
			size += len(e[n])
			n++
		}
		wantScan(t, "a log that is cut", log[:at], n, size)
		wantScan(t, "a log that is cut, with 0 behind", log[:at]+"\x00", n, size)
		if at > 0 {
			wantScan(t, "a log whose front is missing", log[at:], 0, 0)
		}
	}
}

func TestScanTurnedByte(t *testing.T) {
	e := threeEpochs()
	log := strings.Join(e, "")
	n, size := 0, 0
	for at := 0; at < len(log); at++ {
		if at == size+len(e[n]) {
			size += len(e[n])
			n++
		}
		for other := 0; other < 256; other++ {
			if byte(other) != log[at] {
				wantScan(t, "a log with a byte turned", log[:at]+bytesOf(byte(other))+log[at+1:], n, size)
			}
		}
	}
}

func TestScanBytesBehind(t *testing.T) {
	log := strings.Join(threeEpochs(), "")
	for _, behind := range []string{"x", "\x00", "\x00\x00", "\x00\x00\x00\x00", "\x00\x02\x03\x00", "\xff\xff", strings.Repeat("\x00", 100), strings.Repeat("\xff", 70000), emptyEpochs(4), emptyEpochs(0), emptyEpochs(3)[:7], "x" + emptyEpochs(3)} {
		wantScan(t, "three epochs and bytes behind", log+behind, 3, len(log))
	}
	wantScan(t, "four epochs and a byte behind", log+emptyEpochs(3)+"x", 4, len(log)+8)
}

func TestScanWrongSeals(t *testing.T) {
	payload := bytesOf(0, 1, 1, 0, 0, 2, 0, 5) + "a|a=1"
	right := sealed(payload)
	sum := right[len(right)-4:]
	wantScan(t, "a right epoch", bytesOf(0, 13)+payload+sum, 1, 19)
	for _, log := range []string{
		bytesOf(13, 0) + payload + sum, bytesOf(13) + payload + sum, bytesOf(0, 0, 0, 13) + payload + sum,
		bytesOf(0, 12) + payload + sum, bytesOf(0, 14) + payload + sum, bytesOf(1, 13) + payload + sum, bytesOf(0, 17) + payload + sum, bytesOf(0, 19) + payload + sum,
		bytesOf(0, 13) + payload + bytesOf(sum[3], sum[2], sum[1], sum[0]), bytesOf(0, 13) + payload + bytesOf(0, 0, 0, 0), bytesOf(0, 13) + payload + bytesOf(255, 255, 255, 255),
		bytesOf(0, 13) + sum + payload, bytesOf(0, 13) + payload, bytesOf(0, 13) + payload + sum[:3],
		bytesOf(0, 2, 0, 0, 17, 118, 151, 204), bytesOf(0, 2, 0, 0, 205, 151, 118, 17),
	} {
		wantScan(t, "an epoch whose length or sum does not fit", log, 0, 0)
		wantScan(t, "that and an epoch behind", log+right, 0, 0)
	}
}

// Payloads that no Frame writes, under sums that fit.
func TestScanWrongPayloads(t *testing.T) {
	gone := bytesOf(0, 0, 0, 0, 1, 0)
	for _, payload := range []string{
		"", bytesOf(0), bytesOf(1), bytesOf(0, 0, 0), bytesOf(0, 0) + gone, bytesOf(0, 1), bytesOf(0, 255),
		bytesOf(0, 1) + gone[:5], bytesOf(0, 1) + gone + "x", bytesOf(0, 1) + gone + gone, bytesOf(0, 2) + gone, bytesOf(0, 2) + gone + gone[:5],
		bytesOf(0, 65) + strings.Repeat(gone, 65), bytesOf(0, 64) + strings.Repeat(gone, 65), bytesOf(0, 255) + strings.Repeat(gone, 255), bytesOf(0, 0) + strings.Repeat(gone, 256),
		bytesOf(0, 1, 8, 0, 0, 0, 1, 0), bytesOf(0, 1, 255, 0, 0, 0, 1, 0), bytesOf(0, 1, 8, 0, 0, 2, 0, 5) + "a|a=1",
		bytesOf(0, 1, 0, 15, 66, 64, 1, 0), bytesOf(0, 1, 0, 255, 255, 255, 1, 0), bytesOf(0, 1, 0, 15, 66, 64, 0, 5) + "a|a=1",
		bytesOf(0, 1, 0, 0, 0, 0, 2, 0), bytesOf(0, 1, 0, 0, 0, 0, 255, 0), bytesOf(0, 1, 0, 0, 0, 0, 2, 5) + "a|a=1", bytesOf(0, 1, 0, 0, 0, 0, 128, 5) + "a|a=1",
		bytesOf(0, 1, 0, 0, 0, 0, 1, 5) + "a|a=1", bytesOf(0, 1, 0, 0, 0, 0, 1, 1) + "x",
		bytesOf(0, 1, 0, 0, 0, 0, 0, 0), bytesOf(0, 1, 0, 0, 0, 0, 0, 5) + "a|a=x", bytesOf(0, 1, 0, 0, 0, 0, 0, 6) + "a|a=-0",
		bytesOf(0, 1, 0, 0, 0, 0, 0, 4) + "a|a=1", bytesOf(0, 1, 0, 0, 0, 0, 0, 6) + "a|a=1", bytesOf(0, 1, 0, 0, 0, 0, 0, 255) + "a|a=1",
		bytesOf(0, 1, 0, 0, 0, 0, 0, 61) + longest + "4", bytesOf(0, 1, 0, 0, 0, 0, 0, 255) + strings.Repeat("a", 255),
		bytesOf(0, 2) + gone + bytesOf(8, 0, 0, 0, 1, 0), bytesOf(0, 2, 8, 0, 0, 0, 1, 0) + gone,
		strings.Repeat("\x00", 65535), bytesOf(0, 64) + strings.Repeat("\x00", 65533), strings.Repeat("\xff", 65535),
	} {
		wantScan(t, "a payload that Frame does not write", sealed(payload), 0, 0)
		wantScan(t, "that and an epoch behind", sealed(payload)+emptyEpochs(0, 1), 0, 0)
		if len(payload) > 0 && payload[0] == 0 {
			wantScan(t, "that as epoch 1", emptyEpochs(0)+sealed(bytesOf(1)+payload[1:])+emptyEpochs(1), 1, 8)
		}
	}
}

func TestScanEdgesThatFrameWrites(t *testing.T) {
	for _, payload := range []string{
		bytesOf(0, 1, 7, 0, 0, 0, 1, 0), bytesOf(0, 1, 0, 15, 66, 63, 1, 0), bytesOf(0, 1, 0, 0, 0, 0, 0, 4) + "|a=1", bytesOf(0, 1, 0, 0, 0, 0, 0, 60) + longest,
		bytesOf(0, 64) + strings.Repeat(bytesOf(0, 0, 0, 0, 1, 0), 64), bytesOf(0, 64) + strings.Repeat(bytesOf(7, 15, 66, 63, 0, 60)+longest, 64),
	} {
		wantScan(t, "an epoch at the edge", sealed(payload), 1, len(payload)+6)
	}
}

func TestScanDrawn(t *testing.T) {
	d := &draw{state: 3}
	whole, broken := 0, 0
	for i := 0; i < 20000; i++ {
		log, count := drawLog(d)
		if d.below(2) == 0 {
			log = spoilLog(d, log)
		}
		n, size := docket.Scan(log)
		wantN, wantSize := expectedScan(log)
		if n != wantN || size != wantSize {
			t.Fatalf("P5: Scan(%q) = %d, %d, want %d, %d", log, n, size, wantN, wantSize)
		}
		if n == count {
			whole++
		} else {
			broken++
		}
	}
	if whole < 5000 || broken < 5000 {
		t.Errorf("of the drawn logs %d were whole, %d broken: too few of one kind", whole, broken)
	}
}

// drawLog: epochs by the second reading, and how many they are; now and then a record under a right sum that Frame does not write.
func drawLog(d *draw) (string, int) {
	log := ""
	count := 1 + d.below(4)
	for n := 0; n < count; n++ {
		records := drawRecords(d)
		if len(records) > 0 && d.below(12) == 0 {
			at := d.below(len(records))
			records[at] = spoil(d, records[at])
		}
		payload := bytesOf(byte(n), byte(len(records)))
		for _, r := range records {
			payload += recordBytes(r)
		}
		log += sealed(payload)
	}
	return log, count
}

func spoilLog(d *draw, log string) string {
	at := d.below(len(log))
	switch d.below(4) {
	case 0:
		return log[:at]
	case 1:
		return log[:at] + bytesOf(log[at]^byte(1+d.below(255))) + log[at+1:]
	case 2:
		return log[:at] + bytesOf(byte(d.below(256))) + log[at:]
	}
	return log[:at] + log[at+1:]
}

func TestScanHangsOnItsArgumentAlone(t *testing.T) {
	e := threeEpochs()
	logs := []string{"", "x", e[0], e[1], e[0] + e[1], e[0] + e[1] + e[2], e[0] + e[2], e[0] + e[1] + e[2][:20], emptyEpochs(upTo(200)...)}
	for _, log := range logs {
		n, size := docket.Scan(log)
		for _, between := range logs {
			docket.Scan(between)
			docket.Frame(n, listWithRoom()[:3])
			docket.Apply("a|a=1", rising)
			againN, againSize := docket.Scan(log)
			if againN != n || againSize != size {
				t.Errorf("P2: Scan(%q) = %d, %d, and behind Scan(%q) %d, %d", log, n, size, between, againN, againSize)
			}
		}
	}
}

func TestScanEndsAtOddLogs(t *testing.T) {
	for i := 0; i < 256; i++ {
		for j := 0; j < 256; j++ {
			wantScan(t, "two bytes", bytesOf(byte(i), byte(j)), 0, 0)
		}
		for length := 0; length < 300; length++ {
			log := strings.Repeat(bytesOf(byte(i)), length)
			n, size := expectedScan(log)
			wantScan(t, "one byte over and over", log, n, size)
		}
	}
	for _, text := range oddTexts {
		n, size := expectedScan(text)
		wantScan(t, "an odd text", text, n, size)
		wantScan(t, "an odd text behind an epoch", emptyEpochs(0)+text, 1, 8)
	}
}
