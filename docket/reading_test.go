package docket_test

import (
	"regexp"
	"strconv"
	"strings"
	"testing"

	"docket/api"
	"docket/docket"
)

// A second reading of the document, by other means than the program's, to hold Apply against.

const oneOperation = `[a-h][=+\-*<>~](?:[a-h]|0|-?[1-9][0-9]*)`

var transactionForm = regexp.MustCompile(`\Aa?b?c?d?e?f?g?h?\|` + oneOperation + `(?:;` + oneOperation + `){0,7}\z`)

func isTransaction(text string) bool {
	if len(text) > 60 || !transactionForm.MatchString(text) {
		return false
	}
	for _, op := range strings.Split(strings.SplitN(text, "|", 2)[1], ";") {
		if strings.ContainsAny(op[2:], "abcdefgh") {
			continue
		}
		if n, err := strconv.Atoi(op[2:]); err != nil || n < -32768 || n > 32767 {
			return false
		}
	}
	return true
}

func cameIn(n int) int {
	for n > 32767 {
		n -= 65536 * ((n + 32768) / 65536)
	}
	for n < -32768 {
		n += 65536 * ((32767 - n) / 65536)
	}
	return n
}

func expected(text string, was api.Cells) (api.Cells, bool, api.Errno) {
	if !isTransaction(text) {
		return was, false, api.ErrText
	}
	halves := strings.SplitN(text, "|", 2)
	held := map[string]int{}
	for i, n := range was {
		held[string(rune('a'+i))] = int(n)
	}
	for _, op := range strings.Split(halves[1], ";") {
		key, arg := op[:1], op[2:]
		value, err := strconv.Atoi(arg)
		if !strings.Contains(halves[0], key) || err != nil && !strings.Contains(halves[0], arg) {
			return was, false, api.OK
		}
		if err != nil {
			value = held[arg]
		}
		goesOn := true
		switch op[1:2] {
		case "=":
			held[key] = value
		case "+":
			held[key] = cameIn(held[key] + value)
		case "-":
			held[key] = cameIn(held[key] - value)
		case "*":
			held[key] = cameIn(held[key] * value)
		case "<":
			goesOn = held[key] < value
		case ">":
			goesOn = held[key] > value
		case "~":
			goesOn = held[key] == value
		}
		if !goesOn {
			return was, false, api.OK
		}
	}
	after := was
	for i := range after {
		after[i] = int16(held[string(rune('a'+i))])
	}
	return after, true, api.OK
}

func holdAgainst(t *testing.T, text string, was api.Cells) (bool, api.Errno) {
	t.Helper()
	got, done, e := docket.Apply(text, was)
	want, wantDone, wantErr := expected(text, was)
	if got != want || done != wantDone || e != wantErr {
		t.Fatalf("P3: Apply(%q, %v) = %v, %v, %d, want %v, %v, %d", text, was, got, done, e, want, wantDone, wantErr)
	}
	return done, e
}

func TestApplyShortTexts(t *testing.T) {
	for i := 0; i < 256; i++ {
		holdAgainst(t, string([]byte{byte(i)}), rising)
		for j := 0; j < 256; j++ {
			holdAgainst(t, string([]byte{byte(i), byte(j)}), rising)
		}
	}
	letters := "abi|;=-~01"
	texts := []string{""}
	for length := 1; length <= 5; length++ {
		var longer []string
		for _, text := range texts {
			for _, letter := range letters {
				longer = append(longer, text+string(letter))
			}
		}
		texts = longer
		for _, text := range texts {
			holdAgainst(t, text, rising)
		}
	}
}

func TestApplyTextsOneByteOff(t *testing.T) {
	for _, text := range []string{
		"ab|a=5;b+a;b*b",
		"|b~0",
		"a|a=-32768;a-1",
		"a|a<32767;a>-10000",
		"a|a+1;a+1;a+1;a+1;a+1;a+1;a+1;a+1",
		"abcdefgh|a=-12345;a=-12345;a=-12345;a=-12345;a=-12345;a=-123",
	} {
		for at := 0; at <= len(text); at++ {
			for b := 0; b < 256; b++ {
				holdAgainst(t, text[:at]+string([]byte{byte(b)})+text[at:], rising)
				if at < len(text) {
					holdAgainst(t, text[:at]+string([]byte{byte(b)})+text[at+1:], rising)
				}
			}
			holdAgainst(t, text[:at], rising)
			holdAgainst(t, text[at:], rising)
			if at < len(text) {
				holdAgainst(t, text[:at]+text[at+1:], rising)
			}
		}
	}
}

func TestApplyEveryNumber(t *testing.T) {
	for n := -110000; n <= 110000; n++ {
		holdAgainst(t, "a|a="+strconv.Itoa(n), rising)
	}
}

// draw is a row of numbers that is the same in every run.
type draw struct{ state uint64 }

func (d *draw) below(n int) int {
	d.state = d.state*6364136223846793005 + 1442695040888963407
	return int((d.state >> 33) % uint64(n))
}

func drawText(d *draw) string {
	numbers := []string{"0", "1", "-1", "2", "255", "256", "-300", "32767", "-32768", "32766", "12345"}
	text := ""
	for key := 0; key < 8; key++ {
		if d.below(8) > 0 {
			text += string(rune('a' + key))
		}
	}
	text += "|"
	count := 1 + d.below(9)
	for i := 0; i < count; i++ {
		if i > 0 {
			text += ";"
		}
		sign := "=+-*=+-*=+-*<>~"[d.below(15)]
		text += string(rune('a'+d.below(8))) + string(sign)
		if d.below(2) == 0 {
			text += string(rune('a' + d.below(8)))
		} else {
			text += numbers[d.below(len(numbers))]
		}
	}
	return text
}

func TestApplyDrawnTexts(t *testing.T) {
	d := &draw{state: 1}
	wereDone, wereAborted, wereRefused := 0, 0, 0
	for i := 0; i < 100000; i++ {
		var was api.Cells
		for key := range was {
			was[key] = int16(d.below(65536) - 32768)
			if d.below(2) == 0 {
				was[key] = int16(d.below(5) - 2)
			}
		}
		done, e := holdAgainst(t, drawText(d), was)
		switch {
		case e != api.OK:
			wereRefused++
		case done:
			wereDone++
		default:
			wereAborted++
		}
	}
	if wereDone < 5000 || wereAborted < 5000 || wereRefused < 5000 {
		t.Errorf("of the drawn texts %d were done, %d aborted, %d refused: too few of one kind", wereDone, wereAborted, wereRefused)
	}
}
