package world

import (
	"math/rand"
	"reflect"
	"slices"
	"testing"

	"stopcock/api"
	"stopcock/drift"
	"stopcock/judge"
	"stopcock/ledger"
	"stopcock/nodes"
)

// watch looks at a world after each act, and knows what it has seen.
type watch struct {
	t       *testing.T
	w       *World
	log     map[uint64]api.Entry // what was committed
	most    uint64               // up to where
	leaders map[uint64]int       // by Term
	terms   [8]uint64
	votes   [8]int
	boots   [8]uint64
	ledgers map[uint64]api.Ledger // by index
}

func newWatch(t *testing.T, w *World) *watch {
	first, _ := ledger.New(w.setup.Limit)
	return &watch{t: t, w: w, log: map[uint64]api.Entry{}, leaders: map[uint64]int{}, ledgers: map[uint64]api.Ledger{0: first}}
}

// look checks what holds after each act.
func (x *watch) look() {
	x.t.Helper()
	x.connections()
	for n := 1; x.w.isNode(n); n++ {
		if x.w.Up(n) {
			x.votesOf(n)
			x.logOf(n)
		}
	}
	for n := 1; x.w.isNode(n); n++ {
		if x.w.Up(n) {
			x.ledgerOf(n)
		}
	}
}

// connections checks P0.1.
func (x *watch) connections() {
	x.t.Helper()
	by := map[int]int{}
	for _, c := range x.w.Open() {
		if other := by[c.Token]; other != 0 || c.Token < 1 || c.Token > x.w.setup.Limit {
			x.t.Fatalf("node %d has a connection with the token %d, and so has %d", c.Node, c.Token, other)
		}
		by[c.Token] = c.Node
	}
}

// votesOf checks P0.2 and P0.3, as far as Terms and votes are concerned.
func (x *watch) votesOf(n int) {
	x.t.Helper()
	h := x.w.Hard(n)
	if h.Term < x.terms[n] || h.Term == x.terms[n] && x.votes[n] != 0 && h.Vote != x.votes[n] || h.Boot < x.boots[n] {
		x.t.Fatalf("node %d, which had voted for %d in Term %d, has %v", n, x.votes[n], x.terms[n], h)
	}
	x.terms[n], x.votes[n], x.boots[n] = h.Term, h.Vote, h.Boot
	if x.w.Leader(n) == n {
		if other := x.leaders[h.Term]; other != 0 && other != n {
			x.t.Fatalf("nodes %d and %d lead in Term %d", n, other, h.Term)
		}
		x.leaders[h.Term] = n
	}
}

// logOf checks P0.2, as far as entries are concerned.
func (x *watch) logOf(n int) {
	x.t.Helper()
	h := x.w.Hard(n)
	for i := h.Shot.Index + 1; i <= x.w.Commit(n); i++ {
		e := h.Log[i-h.Shot.Index-1]
		e.Cmd.Nodes = append([]int(nil), e.Cmd.Nodes...)
		if known, ok := x.log[i]; ok && !reflect.DeepEqual(known, e) {
			x.t.Fatalf("node %d has %v at %d, and another one %v", n, e, i, known)
		}
		x.log[i] = e
	}
	for x.w.Commit(n) > x.most {
		x.most++
		e, ok := x.log[x.most]
		if !ok {
			x.t.Fatalf("the entry at %d was never seen", x.most)
		}
		x.ledgers[x.most], _, _ = ledger.Apply(x.ledgers[x.most-1], x.most, e.Cmd)
		if e.Cmd.Kind == api.Conf && !nodes.Steps(x.nodesAt(x.most-1), e.Cmd.Nodes) {
			x.t.Fatalf("the nodes become %v", e.Cmd.Nodes)
		}
	}
}

// nodesAt returns the nodes that vote, up to an index.
func (x *watch) nodesAt(index uint64) []int {
	for ; index > 0; index-- {
		if c := x.log[index].Cmd; c.Kind == api.Conf {
			return c.Nodes
		}
	}
	return x.w.setup.Nodes
}

// ledgerOf checks P0.2, as far as ledgers and snapshots are concerned.
func (x *watch) ledgerOf(n int) {
	x.t.Helper()
	s := x.w.Hard(n).Shot
	for _, y := range []struct {
		l     api.Ledger
		index uint64
	}{{x.w.Ledger(n), x.w.Commit(n)}, {s.Ledger, s.Index}} {
		want := x.ledgers[y.index]
		if y.l.Next != want.Next || !slices.Equal(y.l.Held, want.Held) || !slices.Equal(y.l.Last, want.Last) {
			x.t.Fatalf("node %d has at %d the ledger %v, and it should be %v", n, y.index, y.l, want)
		}
	}
	if s.Index > 0 && (s.Term != x.log[s.Index].Term || !slices.Equal(s.Nodes, x.nodesAt(s.Index))) {
		x.t.Fatalf("node %d has the snapshot %v", n, s)
	}
}

// drifted returns a Pass in which each clock goes as wrong as it may.
func drifted(r *rand.Rand, w *World, real int64) api.Act {
	a := api.Act{Kind: api.Pass, Real: real}
	low, _ := drift.Least(w.setup.Rho, real)
	high, _ := drift.Most(w.setup.Rho, real)
	for range w.setup.Many {
		a.Clocks = append(a.Clocks, low+r.Int63n(max(high-low, 0)+1))
	}
	for i := range a.Clocks {
		switch (i + w.setup.Many) % 3 {
		case 0:
			a.Clocks[i] = low
		case 1:
			a.Clocks[i] = high
		}
	}
	return a
}

// act returns some act.
func act(r *rand.Rand, w *World) api.Act {
	a := api.Act{A: 1 + r.Intn(w.setup.Many), B: r.Intn(6)}
	switch k := r.Intn(100); {
	case k < 45:
		a.Kind, a.B = api.Deliver, 0
		if r.Intn(4) == 0 {
			a.B = r.Intn(8)
		}
	case k < 48:
		a.Kind = api.Drop
	case k < 51:
		a.Kind = api.Double
	case k < 61:
		return drifted(r, w, int64(r.Intn(12)))
	case k < 63:
		a.Kind = api.Stand
	case k < 72:
		a.Kind = api.Beat
		if k := w.Leader(a.A); k != 0 {
			a.A = k
		}
	case k < 73:
		a.Kind, a.Keep = api.Crash, []int{r.Intn(90), r.Intn(90)}
	case k < 76:
		a.Kind = api.Start
	case k < 77:
		a.Kind, a.B = api.Arm, r.Intn(300)
	case k < 78:
		a.Kind, a.Nodes = api.Change, toggled(r, w)
		a.A = max(w.Leader(a.A), 1)
	case k < 80:
		a.Kind = api.Squash
	case k < 91:
		return send(a.A, 1+r.Intn(6), []string{"B", "E", "BQ\x01xE", "Q\x01y", "Q\x02zzQ\x00", "BQ\x01x"}[r.Intn(6)])
	case k < 92:
		a.Kind = api.Hang
	case k < 99:
		return serve(a.A, a.B, "answer")
	default:
		return round()
	}
	return a
}

// toggled returns the nodes that vote, with one more or less.
func toggled(r *rand.Rand, w *World) []int {
	l := w.Hard(1 + r.Intn(w.setup.Many)).Shot.Nodes
	n := 1 + r.Intn(w.setup.Many)
	if nodes.Has(l, n) {
		return nodes.Others(l, n)
	}
	l = append(l, n)
	slices.Sort(l)
	return l
}

// P0.1, P0.2, P0.3, P21.4: whatever happens.
func TestWhatever(t *testing.T) {
	opened, replies, commits := 0, 0, uint64(0)
	for seed := range int64(60) {
		r := rand.New(rand.NewSource(seed))
		s := setup(1+r.Intn(5), 1+r.Intn(4), []int{0, 100, 500}[r.Intn(3)], int64(30+r.Intn(60)))
		if s.Many > 2 && r.Intn(2) == 0 {
			s.Nodes = s.Nodes[:2]
		}
		w := mustNew(t, s)
		x := newWatch(t, w)
		w.Do(at(api.Stand, 1))
		w.Do(round())
		x.look()
		for range 1500 {
			w.Do(act(r, w))
			x.look()
		}
		if open, e := judge.Replay(w.setup.Limit, w.Seen()); e != api.OK || !slices.Equal(open, w.Open()) {
			t.Fatalf("to the judge, open are %v, %d; and to the world %v", open, e, w.Open())
		}
		opened += len(w.Seen())
		replies += len(w.Told())
		commits += x.most
	}
	if opened < 800 || replies < 2000 || commits < 2000 {
		t.Errorf("only %d things were seen of connections, there were %d replies and %d entries", opened, replies, commits)
	}
}

// P0.3: wherever the power fails, what was stored before is there, and nothing else that counts.
func TestPowerFails(t *testing.T) {
	fell := 0
	for n := range 400 {
		w := led(t, setup(3, 5, 0, 100), 1)
		all(t, w, send(2, 1, "B"), round(), round())
		before := w.Hard(2)
		all(t, w, api.Act{Kind: api.Arm, A: 2, B: n}, send(1, 1, "B"), round(), at(api.Stand, 3), round(), send(3, 1, "B"), round(), round())
		if !w.Up(2) {
			fell++
		}
		all(t, w, api.Act{Kind: api.Crash, A: 2, Keep: []int{n * 7 % 100, n % 30}}, at(api.Start, 2))
		h := w.Hard(2)
		if h.Boot != 2 || h.Term < before.Term || h.Term == before.Term && h.Vote != before.Vote || len(h.Log) < len(before.Log) || !reflect.DeepEqual(h.Log[:len(before.Log)], before.Log) {
			t.Fatalf("behind %d bytes: before it was %v, and then %v", n, before, h)
		}
		for _, c := range w.Open() {
			if c.Node == 2 {
				t.Fatalf("a node that starts has the connection %v", c)
			}
		}
		all(t, w, round(), round())
		if len(w.conns(2)) != 0 {
			t.Fatal("a node that starts trusts a token of its life before")
		}
	}
	if fell < 40 {
		t.Errorf("the power failed only %d times", fell)
	}
}
