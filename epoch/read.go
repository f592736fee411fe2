package epoch

import "docket/api"

// Scan tells how many epochs, from 0 on, the log begins with, and how many bytes these have.
func Scan(log string) (int, int) {
	rest := log
	for n := 0; n < api.MaxEpochs; n++ {
		_, behind, ok := Read(n, rest)
		if !ok {
			return n, len(log) - len(rest)
		}
		rest = behind
	}
	return api.MaxEpochs, len(log) - len(rest)
}

// Read answers the records of the epoch n that the text begins with, and what is behind it; false, if the text does not begin with an epoch n.
func Read(n int, text string) ([]api.Record, string, bool) {
	payload, behind, ok := unseal(text)
	if !ok || len(payload) < headSize || int(payload[0]) != n {
		return nil, "", false
	}
	records, ok := readRecords(int(payload[1]), payload[headSize:])
	if !ok || !isEpoch(n, records) {
		return nil, "", false
	}
	return records, behind, true
}

// unseal answers the payload at the beginning of the text, and what is behind its sum; false, if the text is too short or the sum does not fit.
func unseal(text string) (string, string, bool) {
	if len(text) < lengthSize {
		return "", "", false
	}
	end := lengthSize + int(readNumber(text[:lengthSize]))
	if len(text) < end+sumSize {
		return "", "", false
	}
	payload := text[lengthSize:end]
	told := readNumber(text[end : end+sumSize])
	if told != sumOf(payload) {
		return "", "", false
	}
	return payload, text[end+sumSize:], true
}

// readRecords reads just so many records; false, if the text has less or more than these.
func readRecords(count int, text string) ([]api.Record, bool) {
	var records []api.Record
	rest := text
	for i := 0; i < count; i++ {
		r, behind, ok := readRecord(rest)
		if !ok {
			return nil, false
		}
		records = append(records, r)
		rest = behind
	}
	return records, rest == ""
}

// readRecord answers the record that the text begins with, and what is behind it.
func readRecord(text string) (api.Record, string, bool) {
	if len(text) < textAt || text[expiredAt] > 1 {
		return api.Record{}, "", false
	}
	end := textAt + int(text[textLengthAt])
	if len(text) < end {
		return api.Record{}, "", false
	}
	r := api.Record{
		Client:  int(text[clientAt]),
		ID:      int(readNumber(text[idAt:expiredAt])),
		Expired: text[expiredAt] == 1,
		Text:    text[textAt:end],
	}
	return r, text[end:], true
}

// readNumber reads a number of at most four bytes, the one that counts most first.
func readNumber(text string) uint32 {
	number := uint32(0)
	for i := 0; i < len(text); i++ {
		number = number<<8 | uint32(text[i])
	}
	return number
}
