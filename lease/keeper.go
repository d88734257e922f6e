package lease

import (
	"maps"
	"slices"

	"stopcock/api"
)

// row is what makes a row of Held the same one as before.
type row struct {
	token         int
	serial, stamp uint64
}

// Keeper knows since when each row of a ledger has been as it is.
type Keeper struct {
	lease int64
	held  []row // in the order of Held
	since map[row]int64
}

// NewKeeper returns a keeper that knows no row.
func NewKeeper(lease int64) (*Keeper, api.Errno) {
	if lease < 1 || lease > api.MaxLease {
		return nil, api.ErrArg
	}
	return &Keeper{lease: lease}, api.OK
}

// Leads makes the rows of l known since now.
func (k *Keeper) Leads(now int64, l api.Ledger) {
	if k != nil {
		k.since = nil
		k.Sees(now, l)
	}
}

// Sees makes the rows of l known since now, but for those that are known already.
func (k *Keeper) Sees(now int64, l api.Ledger) {
	if k == nil {
		return
	}
	known := k.since
	k.held = nil
	k.since = map[row]int64{}
	for _, h := range l.Held {
		r := row{token: h.Token, serial: h.Serial, stamp: h.Stamp}
		t, ok := known[r]
		if !ok {
			t = clamp(now)
		}
		k.held = append(k.held, r)
		k.since[r] = t
	}
}

// Due returns a Reclaim for each row that has been known for a lease, and counts anew for it.
func (k *Keeper) Due(now int64) []api.Cmd {
	if k == nil {
		return nil
	}
	now = clamp(now)
	var due []api.Cmd
	for _, r := range k.held {
		if now-k.since[r] >= k.lease {
			due = append(due, api.Cmd{Kind: api.Reclaim, Token: r.token, Serial: r.serial, Stamp: r.stamp})
		}
	}
	for _, c := range due {
		k.since[row{token: c.Token, serial: c.Serial, stamp: c.Stamp}] = now
	}
	return due
}

// Clone returns another keeper in the same state.
func (k *Keeper) Clone() *Keeper {
	if k == nil {
		return nil
	}
	return &Keeper{lease: k.lease, held: slices.Clone(k.held), since: maps.Clone(k.since)}
}
