// Package values copies values of package api, so that nothing is shared, and tells which are zero.
package values

import (
	"slices"

	"stopcock/api"
)

// NoShot tells whether a snapshot is zero; its lists may be empty.
func NoShot(s api.Shot) bool {
	return s.Index == 0 && s.Term == 0 && len(s.Nodes) == 0 && noLedger(s.Ledger)
}

func noLedger(l api.Ledger) bool {
	return l.Limit == 0 && l.Next == 0 && len(l.Held) == 0 && len(l.Last) == 0
}

// NoEntry tells whether an entry is zero; its list may be empty.
func NoEntry(x api.Entry) bool {
	return x.Term == 0 && noCmd(x.Cmd)
}

func noCmd(c api.Cmd) bool {
	return c.Kind == 0 && c.Node == 0 && c.Token == 0 && len(c.Nodes) == 0 && c.Boot == 0 && c.Seq == 0 && c.Serial == 0 && c.Stamp == 0
}

// CopyCmd returns a command that shares nothing with c; so do the others for their values.
func CopyCmd(c api.Cmd) api.Cmd {
	c.Nodes = slices.Clone(c.Nodes)
	return c
}

// CopyEntry copies an entry.
func CopyEntry(x api.Entry) api.Entry {
	x.Cmd = CopyCmd(x.Cmd)
	return x
}

// CopyEntries copies entries.
func CopyEntries(l []api.Entry) []api.Entry {
	twins := slices.Clone(l)
	for i, x := range twins {
		twins[i] = CopyEntry(x)
	}
	return twins
}

// CopyLedger copies a ledger.
func CopyLedger(l api.Ledger) api.Ledger {
	l.Held = slices.Clone(l.Held)
	l.Last = slices.Clone(l.Last)
	return l
}

// CopyShot copies a snapshot.
func CopyShot(s api.Shot) api.Shot {
	s.Nodes = slices.Clone(s.Nodes)
	s.Ledger = CopyLedger(s.Ledger)
	return s
}

// CopyHard copies a persistent state.
func CopyHard(h api.Hard) api.Hard {
	h.Shot = CopyShot(h.Shot)
	h.Log = CopyEntries(h.Log)
	return h
}
