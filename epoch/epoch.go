// Package epoch writes epochs as bytes, reads them again, and does their records.
package epoch

import (
	"docket/api"
	"docket/transaction"
)

// How many bytes the parts of an epoch have.
const (
	lengthSize = 2
	sumSize    = 4
	// The number and the count of records, ahead of the records.
	headSize = 2
	idSize   = 3
)

// Where the parts of a record begin.
const (
	clientAt     = 0
	idAt         = clientAt + 1
	expiredAt    = idAt + idSize
	textLengthAt = expiredAt + 1
	textAt       = textLengthAt + 1
)

const (
	sumBegin  uint32 = 2166136261
	sumFactor uint32 = 16777619
)

// isEpoch is asked by Write and Read alike, so that no more is read than could have been written.
func isEpoch(n int, records []api.Record) bool {
	if n < 0 || n >= api.MaxEpochs || len(records) > api.MaxRecords {
		return false
	}
	for i := 0; i < len(records); i++ {
		if !isRecord(records[i]) {
			return false
		}
	}
	return true
}

func isRecord(r api.Record) bool {
	if r.Client < 0 || r.Client >= api.MaxClients {
		return false
	}
	if r.ID < 0 || r.ID > api.MaxID {
		return false
	}
	if r.Expired {
		return r.Text == ""
	}
	_, ok := transaction.Parse(r.Text)
	return ok
}

func sumOf(payload string) uint32 {
	sum := sumBegin
	for i := 0; i < len(payload); i++ {
		sum = (sum ^ uint32(payload[i])) * sumFactor
	}
	return sum
}
