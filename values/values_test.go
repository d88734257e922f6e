package values

import (
	"testing"

	"stopcock/api"
)

func TestNoShot(t *testing.T) {
	if !NoShot(api.Shot{}) || !NoShot(api.Shot{Nodes: []int{}, Ledger: api.Ledger{Held: []api.Held{}, Last: []api.Last{}}}) {
		t.Error("no snapshot is one")
	}
	for _, s := range []api.Shot{
		{Index: 1}, {Term: 1}, {Nodes: []int{0}}, {Ledger: api.Ledger{Limit: -1}}, {Ledger: api.Ledger{Next: 1}},
		{Ledger: api.Ledger{Held: make([]api.Held, 1)}}, {Ledger: api.Ledger{Last: make([]api.Last, 1)}},
	} {
		if NoShot(s) {
			t.Errorf("%v is no snapshot", s)
		}
	}
}
