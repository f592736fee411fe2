package docket_test

import (
	"encoding/binary"
	"hash/fnv"
	"math"
	"strings"

	"docket/api"
)

// A second reading of the document's bytes, by other means than the program's, to hold Frame and Scan against.

// bytesOf: numbers as bytes.
func bytesOf(numbers ...byte) string { return string(numbers) }

func sealed(payload string) string {
	sum := fnv.New32a()
	sum.Write([]byte(payload))
	whole := binary.BigEndian.AppendUint16(nil, uint16(len(payload)))
	whole = append(whole, payload...)
	return string(sum.Sum(whole))
}

func recordBytes(r api.Record) string {
	whole := binary.BigEndian.AppendUint32(nil, uint32(r.Client)<<24|uint32(r.ID))
	if r.Expired {
		whole = append(whole, 1)
	} else {
		whole = append(whole, 0)
	}
	return string(append(whole, byte(len(r.Text)))) + r.Text
}

func isRecord(r api.Record) bool {
	inRange := r.Client >= 0 && r.Client <= 7 && r.ID >= 0 && r.ID <= 999999
	return inRange && (r.Expired && r.Text == "" || !r.Expired && isTransaction(r.Text))
}

func expectedFrame(n int, records []api.Record) (string, api.Errno) {
	if n < 0 || n > 199 || len(records) > 64 {
		return "", api.ErrRecord
	}
	payload := bytesOf(byte(n), byte(len(records)))
	for _, r := range records {
		if !isRecord(r) {
			return "", api.ErrRecord
		}
		payload += recordBytes(r)
	}
	return sealed(payload), api.OK
}

// guessedRecords reads what may be the records of an epoch, without asking whether they are any.
func guessedRecords(log string) []api.Record {
	var records []api.Record
	if len(log) < 4 {
		return nil
	}
	count, rest := int(log[3]), log[4:]
	for i := 0; i < count; i++ {
		if len(rest) < 6 || len(rest) < 6+int(rest[5]) {
			return nil
		}
		head := binary.BigEndian.Uint32([]byte(rest[:4]))
		records = append(records, api.Record{Client: int(head >> 24), ID: int(head & 0xffffff), Expired: rest[4] == 1, Text: rest[6 : 6+int(rest[5])]})
		rest = rest[6+int(rest[5]):]
	}
	return records
}

// expectedScan guesses the records of each epoch, writes them anew, and looks whether the log goes on so.
func expectedScan(log string) (int, int) {
	n, size := 0, 0
	for {
		frame, e := expectedFrame(n, guessedRecords(log[size:]))
		if e != api.OK || !strings.HasPrefix(log[size:], frame) {
			return n, size
		}
		n++
		size += len(frame)
	}
}

func drawRecord(d *draw) api.Record {
	r := api.Record{Client: d.below(8), ID: d.below(1000000), Expired: d.below(4) == 0}
	for !r.Expired && !isTransaction(r.Text) {
		r.Text = drawText(d)
	}
	return r
}

func drawRecords(d *draw) []api.Record {
	count := d.below(6)
	if d.below(20) == 0 {
		count = 60 + d.below(5)
	}
	var records []api.Record
	for i := 0; i < count; i++ {
		records = append(records, drawRecord(d))
	}
	return records
}

// spoil makes a record one that cannot be written, mostly.
func spoil(d *draw, r api.Record) api.Record {
	switch d.below(5) {
	case 0:
		r.Client = []int{-1, 8, 256, 263, math.MinInt, math.MaxInt}[d.below(6)]
	case 1:
		r.ID = []int{-1, 1000000, 1 << 24, 1<<24 + 1, math.MinInt, math.MaxInt}[d.below(6)]
	case 2:
		r.Expired = !r.Expired
	case 3:
		r.Text = drawText(d)
	default:
		r.Text += ";"
	}
	return r
}
