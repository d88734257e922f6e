package values

import (
	"reflect"
	"testing"

	"stopcock/api"
)

func TestNoShot(t *testing.T) {
	if !NoShot(api.Shot{}) || !NoShot(api.Shot{Nodes: []int{}, Ledger: api.Ledger{Held: []api.Held{}, Last: []api.Last{}}}) {
		t.Error("no snapshot is one")
	}
	for _, s := range []api.Shot{
		{Index: 1}, {Term: 1}, {Nodes: []int{0}}, {Ledger: api.Ledger{Limit: -1}}, {Ledger: api.Ledger{Next: 1}},
		{Ledger: api.Ledger{Held: make([]api.Held, 1)}}, {Ledger: api.Ledger{Last: make([]api.Last, 1)}},
	} {
		if NoShot(s) {
			t.Errorf("%v is no snapshot", s)
		}
	}
}

func TestNoEntry(t *testing.T) {
	if !NoEntry(api.Entry{}) || !NoEntry(api.Entry{Cmd: api.Cmd{Nodes: []int{}}}) {
		t.Error("no entry is one")
	}
	for _, x := range []api.Entry{
		{Term: 1}, {Cmd: api.Cmd{Kind: -1}}, {Cmd: api.Cmd{Node: 1}}, {Cmd: api.Cmd{Token: 1}}, {Cmd: api.Cmd{Nodes: []int{0}}},
		{Cmd: api.Cmd{Boot: 1}}, {Cmd: api.Cmd{Seq: 1}}, {Cmd: api.Cmd{Serial: 1}}, {Cmd: api.Cmd{Stamp: 1}},
	} {
		if NoEntry(x) {
			t.Errorf("%v is no entry", x)
		}
	}
}

func full() api.Hard {
	return api.Hard{
		Boot: 1, Term: 2, Vote: 3,
		Shot: api.Shot{
			Index: 4, Term: 2, Nodes: []int{1, 2},
			Ledger: api.Ledger{Limit: 5, Next: 6, Held: []api.Held{{Token: 1}, {Token: 2}}, Last: []api.Last{{Node: 1}}},
		},
		Log: []api.Entry{{Term: 1, Cmd: api.Cmd{Kind: api.Conf, Nodes: []int{3, 4}}}, {Term: 2}},
	}
}

func TestCopy(t *testing.T) {
	h := full()
	c := CopyHard(h)
	if !reflect.DeepEqual(c, h) {
		t.Fatalf("the copy is %v", c)
	}
	c.Shot.Nodes[0], c.Shot.Ledger.Held[1].Token, c.Shot.Ledger.Last[0].Node = 77, 77, 77
	c.Log[0].Cmd.Nodes[1], c.Log[1].Term = 77, 77
	if !reflect.DeepEqual(h, full()) {
		t.Errorf("the copy shares memory: %v", h)
	}
}
