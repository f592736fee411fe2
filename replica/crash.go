package replica

import (
	"docket/api"
	"docket/epoch"
)

// Crash lets the replica lose what is not safe, but for the first keep bytes of it, and begin again with the whole epochs of what is left.
func (r *Replica) Crash(keep int) {
	left := r.leftBy(keep)
	*r = startFrom(left)
}

// leftBy compares keep with what can be lost ahead of adding it to what is safe: that sum could overflow.
func (r *Replica) leftBy(keep int) string {
	loose := len(r.disk) - r.safe
	if loose <= 0 || keep >= loose {
		return r.disk
	}
	if keep < 0 {
		keep = 0
	}
	return r.disk[:r.safe+keep]
}

// startFrom answers a replica that has just the whole epochs that the bytes begin with, all of them safe.
func startFrom(bytes string) Replica {
	var r Replica
	rest := bytes
	for r.count < api.MaxEpochs {
		records, behind, ok := epoch.Read(r.count, rest)
		if !ok {
			break
		}
		r.do(records)
		rest = behind
	}
	r.disk = bytes[:len(bytes)-len(rest)]
	r.Sync()
	return r
}
