// Package values tells which values of package api are zero.
package values

import "stopcock/api"

// NoShot tells whether a snapshot is zero; its lists may be empty.
func NoShot(s api.Shot) bool {
	return s.Index == 0 && s.Term == 0 && len(s.Nodes) == 0 && noLedger(s.Ledger)
}

func noLedger(l api.Ledger) bool {
	return l.Limit == 0 && l.Next == 0 && len(l.Held) == 0 && len(l.Last) == 0
}
