package epoch

import "docket/api"

// Write answers the bytes of the epoch n with these records; false, if there is no such epoch.
func Write(n int, records []api.Record) (string, bool) {
	if !isEpoch(n, records) {
		return "", false
	}
	return seal(writePayload(n, records)), true
}

func seal(payload string) string {
	length := writeNumber(uint32(len(payload)), lengthSize)
	sum := writeNumber(sumOf(payload), sumSize)
	return length + payload + sum
}

func writePayload(n int, records []api.Record) string {
	payload := string([]byte{byte(n), byte(len(records))})
	for i := 0; i < len(records); i++ {
		payload += writeRecord(records[i])
	}
	return payload
}

func writeRecord(r api.Record) string {
	id := writeNumber(uint32(r.ID), idSize)
	expired := byte(0)
	if r.Expired {
		expired = 1
	}
	return string([]byte{byte(r.Client)}) + id + string([]byte{expired, byte(len(r.Text))}) + r.Text
}

// writeNumber answers the last bytes of a number, the one that counts most first.
func writeNumber(number uint32, size int) string {
	text := ""
	for i := 0; i < size; i++ {
		text = string([]byte{byte(number)}) + text
		number = number >> 8
	}
	return text
}
