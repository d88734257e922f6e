package world

import (
	"math"
	"reflect"
	"slices"
	"testing"

	"stopcock/api"
	"stopcock/msg"
	"stopcock/net"
)

func setup(many, limit, rho int, lease int64) api.Setup {
	s := api.Setup{Many: many, Limit: limit, Rho: rho, Lease: lease}
	for n := 1; n <= many; n++ {
		s.Nodes = append(s.Nodes, n)
	}
	return s
}

func mustNew(t *testing.T, s api.Setup) *World {
	t.Helper()
	w, e := New(s)
	if e != api.OK {
		t.Fatalf("New is %d", e)
	}
	return w
}

func do(t *testing.T, w *World, a api.Act, want api.Errno) {
	t.Helper()
	if e := w.Do(a); e != want {
		t.Fatalf("Do(%v) is %d, not %d", a, e, want)
	}
}

// at is an act at a node.
func at(kind, a int) api.Act { return api.Act{Kind: kind, A: a} }

func send(n, sess int, b string) api.Act {
	return api.Act{Kind: api.Send, A: n, B: sess, Bytes: b}
}

func serve(n, token int, text string) api.Act {
	return api.Act{Kind: api.Serve, A: n, B: token, Bytes: text}
}

// pass lets as much time go by on all clocks.
func pass(w *World, real int64) api.Act {
	a := api.Act{Kind: api.Pass, Real: real}
	for range w.setup.Many {
		a.Clocks = append(a.Clocks, real)
	}
	return a
}

// all does acts that must succeed.
func all(t *testing.T, w *World, acts ...api.Act) {
	t.Helper()
	for _, a := range acts {
		do(t, w, a, api.OK)
	}
}

func round() api.Act { return at(api.Round, 0) }

// led is a world in which a node leads.
func led(t *testing.T, s api.Setup, n int) *World {
	t.Helper()
	w := mustNew(t, s)
	all(t, w, at(api.Stand, n), round())
	for k := 1; k <= s.Many; k++ {
		if w.Leader(k) != n {
			t.Fatalf("to node %d, %d leads", k, w.Leader(k))
		}
	}
	return w
}

// kinds returns the replies that a session was told, in one of its lives.
func kinds(w *World, n, sess, life int) []int {
	var l []int
	for _, x := range w.Told() {
		if x.Node == n && x.Sess == sess && x.Life == life {
			l = append(l, x.Reply.Kind)
		}
	}
	return l
}

func told(t *testing.T, w *World, n, sess, life int, want ...int) {
	t.Helper()
	if got := kinds(w, n, sess, life); !slices.Equal(got, want) {
		t.Fatalf("session %d of node %d is told %v, not %v", sess, n, got, want)
	}
}

func seen(t *testing.T, w *World, want ...api.Seen) {
	t.Helper()
	if got := w.Seen(); !slices.Equal(got, want) {
		t.Fatalf("seen was %v, not %v", got, want)
	}
}

// P21.1
func TestNew(t *testing.T) {
	w := mustNew(t, setup(3, 5, 100, 50))
	for n := 0; n <= 8; n++ {
		is := n >= 1 && n <= 3
		if w.Up(n) != is || w.Clock(n) != 0 || w.Leader(n) != 0 || w.Commit(n) != 0 || len(w.Queries(n)) != 0 || w.Query(n, 1) != "" || w.Session(n, 1) {
			t.Errorf("node %d is not as it should be", n)
		}
		h := w.Hard(n)
		if !is && (h.Boot != 0 || w.Ledger(n).Limit != 0) || is && (h.Boot != 1 || h.Term != 0 || h.Shot.Index != 0 || !slices.Equal(h.Shot.Nodes, []int{1, 2, 3}) || w.Ledger(n).Limit != 5) {
			t.Errorf("node %d has %v", n, h)
		}
	}
	if len(w.Letters())+len(w.Open())+len(w.Seen())+len(w.Told()) != 0 {
		t.Error("something has been recorded")
	}
	for _, s := range []api.Setup{{}, setup(8, 1, 0, 1), setup(1, 0, 0, 1), setup(1, 1, 501, 1), setup(1, 1, 0, 0), {Many: 1, Nodes: []int{2}, Limit: 1, Lease: 1}} {
		if w, e := New(s); w != nil || e != api.ErrArg {
			t.Errorf("New(%v) is %d", s, e)
		}
	}
	s := setup(2, 5, 0, 50)
	w = mustNew(t, s)
	s.Nodes[0] = 77
	all(t, w, at(api.Crash, 1), at(api.Start, 1))
}

// P21.2: which acts may not be.
func TestErrors(t *testing.T) {
	w := mustNew(t, setup(2, 5, 100, 50))
	for _, kind := range []int{0, -1, 16, math.MinInt, math.MaxInt} {
		do(t, w, at(kind, 1), api.ErrArg)
	}
	for _, kind := range []int{api.Stand, api.Beat, api.Squash, api.Change, api.Crash, api.Start, api.Arm, api.Send, api.Hang, api.Serve} {
		for _, n := range []int{0, 3, -1, math.MaxInt} {
			do(t, w, at(kind, n), api.ErrArg)
		}
	}
	for _, kind := range []int{api.Deliver, api.Drop, api.Double} {
		for _, i := range []int{0, -1, 7} {
			do(t, w, api.Act{Kind: kind, B: i}, api.ErrNone)
		}
	}
	all(t, w, at(api.Crash, 2))
	for _, kind := range []int{api.Stand, api.Beat, api.Squash, api.Change, api.Arm, api.Send, api.Hang} {
		do(t, w, at(kind, 2), api.ErrDown)
	}
	do(t, w, serve(2, 1, string(make([]byte, 49))), api.ErrDown)
	do(t, w, serve(1, 1, string(make([]byte, 49))), api.ErrLong)
	do(t, w, serve(1, 1, string(make([]byte, 48))), api.ErrNone)
	do(t, w, at(api.Start, 1), api.ErrState)
	do(t, w, at(api.Beat, 1), api.ErrLead)
	do(t, w, at(api.Squash, 1), api.ErrNone)
	do(t, w, at(api.Change, 1), api.ErrCmd)
	do(t, w, api.Act{Kind: api.Change, A: 1, Nodes: []int{1}}, api.ErrLead)
	do(t, w, send(1, 7, "B"), api.ErrArg)
	do(t, w, send(1, 0, "B"), api.ErrArg)
	do(t, w, api.Act{Kind: api.Hang, A: 1, B: 1}, api.ErrNone)
	var none *World
	do(t, none, round(), api.ErrArg)
	do(t, &World{}, round(), api.OK)
	if none.Up(1) || none.Clock(1) != 0 || none.Letters() != nil || none.Open() != nil || none.Seen() != nil || none.Told() != nil || none.Hard(1).Boot != 0 {
		t.Error("no world has something")
	}
}

// P21.2: Pass.
func TestPass(t *testing.T) {
	w := mustNew(t, setup(2, 5, 100, 50))
	for _, x := range []struct {
		real   int64
		clocks []int64
		want   api.Errno
	}{
		{10, []int64{10}, api.ErrArg}, {10, []int64{10, 10, 10}, api.ErrArg}, {10, []int64{8, 10}, api.ErrArg}, {10, []int64{10, 12}, api.ErrArg}, {-1, []int64{-1, -1}, api.ErrArg},
		{1<<40 + 1, []int64{1 << 40, 1 << 40}, api.ErrArg}, {0, []int64{0, 1}, api.ErrArg}, {0, nil, api.ErrArg}, {10, []int64{9, 11}, api.OK}, {0, []int64{0, 0}, api.OK}, {10, []int64{9, 11}, api.OK},
	} {
		do(t, w, api.Act{Kind: api.Pass, Real: x.real, Clocks: x.clocks}, x.want)
	}
	if w.Clock(1) != 18 || w.Clock(2) != 22 || w.Clock(3) != 0 {
		t.Errorf("the clocks show %d and %d", w.Clock(1), w.Clock(2))
	}
	// A node that is down has a clock, too; and no clock goes beyond its end.
	all(t, w, at(api.Crash, 2), pass(w, 5))
	if w.Clock(2) != 27 {
		t.Errorf("the clock shows %d", w.Clock(2))
	}
	w.places[1].clock, w.places[2].clock = 1<<60-5, 0
	do(t, w, pass(w, 6), api.ErrFull)
	w.places[1].clock, w.places[2].clock = 23, 1<<60-5
	do(t, w, pass(w, 6), api.ErrFull)
	do(t, w, pass(w, 5), api.OK)
	if w.Clock(1) != 28 || w.Clock(2) != 1<<60 {
		t.Errorf("the clocks show %d and %d", w.Clock(1), w.Clock(2))
	}
}

// P21.2: letters.
func TestLetters(t *testing.T) {
	w := mustNew(t, setup(3, 5, 0, 50))
	all(t, w, at(api.Stand, 1))
	l := w.Letters()
	if len(l) != 2 || l[0].From != 1 || l[0].To != 2 || l[1].To != 3 {
		t.Fatalf("the letters are %v", l)
	}
	if x, e := msg.Decode([]byte(l[1].Bytes)); e != api.OK || x.Kind != api.Ask || x.To != 3 {
		t.Errorf("a letter is %v, %d", x, e)
	}
	l[0].To = 77
	do(t, w, api.Act{Kind: api.Double, B: 1}, api.OK)
	do(t, w, api.Act{Kind: api.Drop, B: 0}, api.OK)
	if l := w.Letters(); len(l) != 2 || l[0] != l[1] || l[0].To != 3 {
		t.Fatalf("the letters are %v", l)
	}
	do(t, w, api.Act{Kind: api.Deliver, B: 1}, api.OK)
	if w.Hard(3).Vote != 1 || len(w.Letters()) != 2 {
		t.Error("the letter was not delivered")
	}
	all(t, w, at(api.Crash, 1), api.Act{Kind: api.Deliver, B: 1})
	if len(w.Letters()) != 1 {
		t.Error("a letter to a node that is down remains")
	}
	// What is no message, or not for whom the letter is, or for nobody, disappears.
	vote := w.Letters()[0]
	for _, x := range []net.Letter{{From: 1, To: 2, Bytes: "?"}, {From: 1, To: 2, Bytes: vote.Bytes}, {From: 1, To: 7, Bytes: vote.Bytes}} {
		w.net.Send(x)
	}
	all(t, w, round())
	if len(w.Letters()) != 0 || w.Hard(2).Term != 0 {
		t.Error("a letter that means nothing does something")
	}
	for range api.MaxQueue + 1 {
		w.net.Send(net.Letter{From: 1, To: 1})
	}
	do(t, w, api.Act{Kind: api.Double}, api.ErrFull)
	all(t, w, at(api.Stand, 2))
	if len(w.Letters()) != api.MaxQueue {
		t.Error("there are too many letters")
	}
}

// The document's example.
func TestExample(t *testing.T) {
	w := led(t, setup(2, 5, 0, 50), 1)
	all(t, w, send(2, 1, "B"), round(), pass(w, 1), round())
	told(t, w, 2, 1, 1, api.Ready)
	if want := []api.Conn{{Node: 2, Token: 1}}; !slices.Equal(w.Open(), want) {
		t.Errorf("open are %v", w.Open())
	}
}

// P21.2: the effects of a call.
func TestRecords(t *testing.T) {
	w := led(t, setup(1, 5, 0, 50), 1)
	all(t, w, send(1, 2, "B"), send(1, 1, "BQ\x01xE"), send(1, 3, "E?"), serve(1, 2, "yes"))
	want := []api.Told{
		{Node: 1, Sess: 2, Life: 1, Reply: api.Reply{Kind: api.Ready}}, {Node: 1, Sess: 1, Life: 1, Reply: api.Reply{Kind: api.Ready}},
		{Node: 1, Sess: 3, Life: 1, Reply: api.Reply{Kind: api.Wrong}}, {Node: 1, Sess: 3, Life: 1, Reply: api.Reply{Kind: api.Broken}},
		{Node: 1, Sess: 1, Life: 1, Reply: api.Reply{Kind: api.Result, Text: "yes"}}, {Node: 1, Sess: 1, Life: 1, Reply: api.Reply{Kind: api.Done}},
	}
	if !reflect.DeepEqual(w.Told(), want) {
		t.Fatalf("told was %v", w.Told())
	}
	opened := []api.Seen{{Kind: api.Opened, Node: 1, Token: 1}, {Kind: api.Opened, Node: 1, Token: 2}}
	seen(t, w, opened...)
	// All connections that a call closes come in the order of their tokens; those that it opens come behind.
	all(t, w, send(1, 1, "B"), pass(w, 50))
	seen(t, w, append(opened, api.Seen{Kind: api.Closed, Node: 1, Token: 1}, api.Seen{Kind: api.Closed, Node: 1, Token: 2})...)
	told(t, w, 1, 1, 1, api.Ready, api.Result, api.Done, api.Ready)
	all(t, w, send(1, 4, "B"), at(api.Crash, 1))
	l := w.Seen()
	if len(l) != 6 || l[5] != (api.Seen{Kind: api.Fell, Node: 1}) || len(w.Open()) != 0 || w.Up(1) {
		t.Errorf("seen was %v", l)
	}
	all(t, w, at(api.Crash, 1))
	l[0].Node = 77
	w.Told()[0].Node = 77
	if len(w.Seen()) != 6 || w.Seen()[0].Node != 1 || w.Told()[0].Node != 1 {
		t.Error("a crash of a node that is down is seen, or the records are not the world's own")
	}
}

// P21.2: lives of a session number.
func TestLives(t *testing.T) {
	w := led(t, setup(1, 5, 0, 50), 1)
	do(t, w, send(1, 9, "B"), api.ErrArg)
	all(t, w, send(1, 1, "E"), send(1, 1, "E"), api.Act{Kind: api.Hang, A: 1, B: 1}, send(1, 1, "E?"), send(1, 1, "E"), at(api.Crash, 1), at(api.Start, 1), send(1, 1, "E"))
	told(t, w, 1, 1, 1, api.Wrong, api.Wrong)
	told(t, w, 1, 1, 2, api.Wrong, api.Broken)
	told(t, w, 1, 1, 3, api.Wrong)
	told(t, w, 1, 1, 4, api.Wrong)
	// A life counts even if the node fails in this call.
	all(t, w, at(api.Stand, 1), api.Act{Kind: api.Arm, A: 1, B: 0})
	do(t, w, send(1, 2, "B"), api.ErrDown)
	all(t, w, at(api.Start, 1), send(1, 2, "E"))
	told(t, w, 1, 2, 2, api.Wrong)
	told(t, w, 1, 2, 1)
}

// P21.2: Arm, Crash with what is kept, and Start.
func TestPower(t *testing.T) {
	w := led(t, setup(1, 5, 0, 50), 1)
	all(t, w, api.Act{Kind: api.Arm, A: 1, B: 3})
	do(t, w, send(1, 1, "B"), api.ErrDown)
	seen(t, w, api.Seen{Kind: api.Fell, Node: 1})
	if w.Up(1) || w.Hard(1).Boot != 0 || w.Session(1, 1) {
		t.Error("a node whose disk failed is up")
	}
	do(t, w, send(1, 1, "B"), api.ErrDown)
	all(t, w, at(api.Start, 1))
	if h := w.Hard(1); h.Boot != 2 || h.Term != 1 || len(h.Log) != 1 || len(w.Letters()) != 0 {
		t.Errorf("the node has %v", h)
	}
	// The whole entry may have been kept.
	all(t, w, at(api.Stand, 1), api.Act{Kind: api.Arm, A: 1, B: 70})
	for w.Up(1) {
		w.Do(send(1, 1, "BEB"))
		w.Do(pass(w, 25))
	}
	log := w.places[1].disk.Clone()
	all(t, w, api.Act{Kind: api.Crash, A: 1, Keep: []int{9999}}, at(api.Start, 1))
	kept := len(w.Hard(1).Log)
	w.places[1].disk, w.places[1].node = log, nil
	all(t, w, at(api.Start, 1))
	if lost := len(w.Hard(1).Log); lost > kept {
		t.Errorf("%d entries are kept, and %d without what is loose", kept, lost)
	}
	if len(w.Open()) != 0 || w.Leader(1) != 0 {
		t.Error("a node that starts has something")
	}
}

// P21.2: a node that can't start stays down.
func TestStartFails(t *testing.T) {
	w := mustNew(t, setup(2, 5, 0, 50))
	all(t, w, at(api.Crash, 1))
	for _, name := range w.places[1].disk.Names() {
		w.places[1].disk.Power()
		w.places[1].disk.Remove(name)
	}
	do(t, w, at(api.Start, 1), api.ErrDown)
	if w.Up(1) || len(w.Seen()) != 1 {
		t.Error("a node without a state is up, or falls twice")
	}
}

// P21.2: Round delivers, lets the leader beat, and delivers.
func TestRound(t *testing.T) {
	w := led(t, setup(3, 5, 0, 50), 1)
	all(t, w, send(1, 1, "B"), round())
	if w.Commit(2) != 2 || w.Commit(3) != 2 || len(w.Letters()) != 0 {
		t.Errorf("Commit is %d and %d", w.Commit(2), w.Commit(3))
	}
	all(t, w, at(api.Crash, 1))
	before := w.Hard(2)
	all(t, w, round())
	if !reflect.DeepEqual(w.Hard(2), before) {
		t.Error("a round without a leader does something")
	}
}

// P21.2: a Round ends, however many letters make new ones.
func TestRoundEnds(t *testing.T) {
	w := led(t, setup(3, 9, 0, 50), 1)
	for sess := 1; sess <= 6; sess++ {
		all(t, w, send(1, sess, "B"))
		for i := len(w.Letters()) - 1; i >= 0; i-- {
			if w.Letters()[i].To == 3 {
				all(t, w, api.Act{Kind: api.Drop, B: i})
			}
		}
		all(t, w, api.Act{Kind: api.Deliver}, api.Act{Kind: api.Deliver})
	}
	all(t, w, at(api.Beat, 1))
	for len(w.Letters()) > 1 {
		all(t, w, api.Act{Kind: api.Drop, B: 0})
	}
	for len(w.Letters()) < api.MaxQueue {
		all(t, w, api.Act{Kind: api.Double})
	}
	w.deliverAll()
	if len(w.Letters()) != api.MaxQueue {
		t.Errorf("%d letters are left", len(w.Letters()))
	}
	all(t, w, round(), round())
	if len(w.Letters()) != 0 {
		t.Errorf("%d letters are left", len(w.Letters()))
	}
}
