package transaction

import "docket/api"

// Cost is how many operations the transaction has.
func (t Transaction) Cost() int {
	return len(t.ops)
}

// Do answers the cells behind the transaction and true; if it is aborted, the cells as they were and false.
func (t Transaction) Do(cells api.Cells) (api.Cells, bool) {
	after := cells
	for i := 0; i < len(t.ops); i++ {
		next, ok := t.step(t.ops[i], after)
		if !ok {
			return cells, false
		}
		after = next
	}
	return after, true
}

// step does one operation; false, if it aborts the transaction.
func (t Transaction) step(op operation, cells api.Cells) (api.Cells, bool) {
	if !t.declares(op.key) {
		return cells, false
	}
	if op.arg.isKey && !t.declares(op.arg.key) {
		return cells, false
	}
	value := valueOf(op.arg, cells)
	held := cells[op.key]
	switch op.sign {
	case '=':
		cells[op.key] = value
	case '+':
		cells[op.key] = held + value
	case '-':
		cells[op.key] = held - value
	case '*':
		cells[op.key] = held * value
	case '<':
		return cells, held < value
	case '>':
		return cells, held > value
	case '~':
		return cells, held == value
	}
	return cells, true
}

func (t Transaction) declares(key int) bool {
	return isKey(key) && t.keys[key]
}

func isKey(key int) bool {
	return key >= 0 && key < keyCount
}

func valueOf(arg argument, cells api.Cells) int16 {
	if arg.isKey && isKey(arg.key) {
		return cells[arg.key]
	}
	return arg.number
}
