package epoch

import (
	"docket/api"
	"docket/transaction"
)

// Do answers the cells behind a record, and what became of its transaction.
func Do(r api.Record, cells api.Cells) (api.Cells, api.State) {
	if r.Expired {
		return cells, api.Expired
	}
	t, ok := transaction.Parse(r.Text)
	if !ok {
		// Such a record is never written; so that none can be done, it counts as aborted.
		return cells, api.Aborted
	}
	after, done := t.Do(cells)
	if !done {
		return cells, api.Aborted
	}
	return after, api.Done
}
