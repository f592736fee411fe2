// Package transaction reads the texts of transactions and does them on cells.
package transaction

import "docket/api"

const keyCount = len(api.Cells{})

const (
	minNumber = -32768
	maxNumber = 32767
	// No number in the range has more digits; without this bound a long one could overflow.
	maxDigits = 5
)

// Transaction is a text that was read. Its fields stay in this package, so that only Parse makes one.
type Transaction struct {
	keys [keyCount]bool
	ops  []operation
}

type operation struct {
	key  int
	sign byte
	arg  argument
}

// argument is a key if isKey, else a number.
type argument struct {
	isKey  bool
	key    int
	number int16
}

// Parse reads a transaction; false, if the text is none.
func Parse(text string) (Transaction, bool) {
	if len(text) > api.MaxText {
		return Transaction{}, false
	}
	head, tail, found := cut(text, '|')
	if !found {
		return Transaction{}, false
	}
	keys, rising := parseKeys(head)
	if !rising {
		return Transaction{}, false
	}
	ops, ok := parseOperations(tail)
	if !ok {
		return Transaction{}, false
	}
	return Transaction{keys: keys, ops: ops}, true
}

// cut tells what is ahead of the first mark, what is behind it, and whether there is a mark.
func cut(text string, mark byte) (string, string, bool) {
	for i := 0; i < len(text); i++ {
		if text[i] == mark {
			return text[:i], text[i+1:], true
		}
	}
	return text, "", false
}

func parseKeys(text string) ([keyCount]bool, bool) {
	var keys [keyCount]bool
	// Rising order alone keeps a key from standing twice.
	last := -1
	for i := 0; i < len(text); i++ {
		key, ok := parseKey(text[i])
		if !ok || key <= last {
			return [keyCount]bool{}, false
		}
		keys[key] = true
		last = key
	}
	return keys, true
}

// parseKey answers a place among the cells: from 0 to keyCount-1.
func parseKey(letter byte) (int, bool) {
	key := int(letter) - 'a'
	if key < 0 || key >= keyCount {
		return 0, false
	}
	return key, true
}

func parseOperations(text string) ([]operation, bool) {
	var ops []operation
	rest := text
	more := true
	for more {
		if len(ops) == api.MaxOps {
			return nil, false
		}
		part := ""
		part, rest, more = cut(rest, ';')
		op, ok := parseOperation(part)
		if !ok {
			return nil, false
		}
		ops = append(ops, op)
	}
	return ops, true
}

func parseOperation(text string) (operation, bool) {
	if len(text) < 3 {
		return operation{}, false
	}
	key, ok := parseKey(text[0])
	if !ok {
		return operation{}, false
	}
	sign := text[1]
	if !isSign(sign) {
		return operation{}, false
	}
	arg, ok := parseArgument(text[2:])
	if !ok {
		return operation{}, false
	}
	return operation{key: key, sign: sign, arg: arg}, true
}

func isSign(c byte) bool {
	switch c {
	case '=', '+', '-', '*', '<', '>', '~':
		return true
	}
	return false
}

func parseArgument(text string) (argument, bool) {
	if len(text) == 1 {
		key, ok := parseKey(text[0])
		if ok {
			return argument{isKey: true, key: key}, true
		}
	}
	number, ok := parseNumber(text)
	if !ok {
		return argument{}, false
	}
	return argument{number: number}, true
}

func parseNumber(text string) (int16, bool) {
	if text == "0" {
		return 0, true
	}
	digits := text
	factor := 1
	if len(text) > 0 && text[0] == '-' {
		digits = text[1:]
		factor = -1
	}
	size, ok := parseDigits(digits)
	if !ok {
		return 0, false
	}
	number := factor * size
	if number < minNumber || number > maxNumber {
		return 0, false
	}
	return int16(number), true
}

// parseDigits reads digits of which the first is not 0.
func parseDigits(text string) (int, bool) {
	if len(text) == 0 || len(text) > maxDigits || text[0] == '0' {
		return 0, false
	}
	size := 0
	for i := 0; i < len(text); i++ {
		if text[i] < '0' || text[i] > '9' {
			return 0, false
		}
		size = size*10 + int(text[i]-'0')
	}
	return size, true
}
