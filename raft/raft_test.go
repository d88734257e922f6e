package raft

import (
	"math"
	"reflect"
	"slices"
	"testing"

	"stopcock/api"
	"stopcock/hard"
	"stopcock/msg"
	"stopcock/rlog"
	"stopcock/shot"
)

func picture(index, term uint64, l ...int) api.Shot {
	s, _ := shot.New(2, l)
	s.Index, s.Term = index, term
	return s
}

func noop(term uint64) api.Entry {
	return api.Entry{Term: term, Cmd: api.Cmd{Kind: api.Noop}}
}

func grantCmd(node int, seq uint64) api.Cmd {
	return api.Cmd{Kind: api.Grant, Node: node, Boot: 1, Seq: seq}
}

func confCmd(l ...int) api.Cmd { return api.Cmd{Kind: api.Conf, Nodes: l} }

func mustNew(t *testing.T, self int, h api.Hard) *Machine {
	t.Helper()
	m, e := New(self, h)
	if e != api.OK {
		t.Fatalf("New is %d", e)
	}
	return m
}

func three(t *testing.T, self int) *Machine {
	t.Helper()
	return mustNew(t, self, api.Hard{Shot: picture(0, 0, 1, 2, 3)})
}

// is compares a deed with records and messages, whose From and Term are those of the machine.
func is(t *testing.T, what string, m *Machine, d Deed, e api.Errno, recs []api.Rec, out ...api.Msg) {
	t.Helper()
	for i := range out {
		out[i].From, out[i].Term = m.self, m.Hard().Term
	}
	if e != api.OK || !alike(d.Recs, recs) || !alike(d.Out, out) {
		t.Fatalf("%s: the deed is %v, %d, not %v, %v", what, d, e, recs, out)
	}
	for _, x := range d.Out {
		if msg.Check(x) != api.OK {
			t.Fatalf("%s: %v is no message", what, x)
		}
	}
}

func alike[T any](a, b []T) bool { return len(a)+len(b) == 0 || reflect.DeepEqual(a, b) }

func refused(t *testing.T, what string, d Deed, e, want api.Errno) {
	t.Helper()
	if !reflect.DeepEqual(d, Deed{}) || e != want {
		t.Errorf("%s is %v, %d, not %d", what, d, e, want)
	}
}

func voted(term uint64, vote int) api.Rec { return api.Rec{Kind: api.Voted, Term: term, Vote: vote} }

func added(index uint64, x api.Entry) api.Rec {
	return api.Rec{Kind: api.Added, Index: index, Entry: x}
}

func recs(l ...api.Rec) []api.Rec { return l }

func take(t *testing.T, m *Machine, x api.Msg) (Deed, api.Errno) {
	t.Helper()
	x.To = m.self
	if msg.Check(x) != api.OK {
		t.Fatalf("%v is no message", x)
	}
	return m.Take(x)
}

// lead makes a leader of node 1 of three, at Term 1, with its Noop at index 1.
func lead(t *testing.T) *Machine {
	t.Helper()
	m := three(t, 1)
	m.Stand()
	take(t, m, api.Msg{Kind: api.Vote, From: 2, Term: 1, Flag: true})
	if m.Leader() != 1 {
		t.Fatal("node 1 does not lead")
	}
	return m
}

// agreed makes a leader of which node 2 has the Noop.
func agreed(t *testing.T) *Machine {
	t.Helper()
	m := lead(t)
	take(t, m, api.Msg{Kind: api.Fed, From: 2, Term: 1, Flag: true, Index: 1})
	if m.Commit() != 1 {
		t.Fatal("the Noop is not committed")
	}
	return m
}

// P16.1
func TestNew(t *testing.T) {
	h := api.Hard{Boot: 4, Term: 9, Vote: 2, Shot: picture(5, 2, 1, 3), Log: []api.Entry{noop(3), {Term: 4, Cmd: confCmd(1, 3, 7)}}}
	m := mustNew(t, 7, h)
	if !reflect.DeepEqual(m.Hard(), h) || m.Commit() != 5 || m.Leader() != 0 || !slices.Equal(m.Nodes(), []int{1, 3, 7}) {
		t.Errorf("the machine has %v, %d, %d, %v", m.Hard(), m.Commit(), m.Leader(), m.Nodes())
	}
	m.Hard().Shot.Nodes[0] = 77
	m.Nodes()[0] = 77
	h.Log[1].Cmd.Nodes[0] = 77
	if m.Hard().Shot.Nodes[0] != 1 || m.Nodes()[0] != 1 {
		t.Error("the machine shares its memory")
	}
	for i, x := range []struct {
		self int
		h    api.Hard
		want api.Errno
	}{
		{0, api.Hard{}, api.ErrArg}, {8, api.Hard{Shot: picture(0, 0, 1)}, api.ErrArg}, {-1, api.Hard{}, api.ErrArg}, {1, api.Hard{}, api.ErrRec},
		{1, api.Hard{Term: 1, Shot: picture(1<<61+1, 1, 1)}, api.ErrRec}, {1, api.Hard{Term: 1, Shot: picture(1<<61, 1, 1), Log: []api.Entry{noop(1)}}, api.ErrRec},
		{7, api.Hard{Term: 1, Shot: picture(1<<61, 1, 1)}, api.OK},
	} {
		if m, e := New(x.self, x.h); e != x.want || (m == nil) != (e != api.OK) {
			t.Errorf("case %d: New is %v, %d", i, m, e)
		}
	}
}

// P16.2: what is no message for this node.
func TestTakeErrors(t *testing.T) {
	m := three(t, 1)
	for _, x := range []api.Msg{{}, {Kind: api.Vote, From: 1, To: 1, Term: 1}, {Kind: api.Vote, From: 2, To: 1}, {Kind: api.Vote, From: 2, To: 3, Term: 9}} {
		d, e := m.Take(x)
		refused(t, "Take", d, e, api.ErrMsg)
	}
	if m.Hard().Term != 0 {
		t.Error("a message that is refused changes the Term")
	}
}

// P16.2: messages of an earlier Term, and of a later one.
func TestTerms(t *testing.T) {
	h := api.Hard{Term: 5, Vote: 3, Shot: picture(4, 2, 1, 2, 3), Log: []api.Entry{noop(3)}}
	m := mustNew(t, 1, h)
	d, e := take(t, m, api.Msg{Kind: api.Ask, From: 2, Term: 4, Index: 99, LogTerm: 4})
	is(t, "Ask", m, d, e, nil, api.Msg{Kind: api.Vote, To: 2})
	d, e = take(t, m, api.Msg{Kind: api.Feed, From: 2, Term: 4, Index: 5, LogTerm: 3})
	is(t, "Feed", m, d, e, nil, api.Msg{Kind: api.Fed, To: 2, Index: 5})
	d, e = take(t, m, api.Msg{Kind: api.Ship, From: 2, Term: 4, Shot: picture(9, 4, 1)})
	is(t, "Ship", m, d, e, nil, api.Msg{Kind: api.Fed, To: 2, Index: 5})
	d, e = take(t, m, api.Msg{Kind: api.Vote, From: 2, Term: 4, Flag: true})
	is(t, "Vote", m, d, e, nil)
	d, e = take(t, m, api.Msg{Kind: api.Fed, From: 2, Term: 4, Flag: true, Index: 5})
	is(t, "Fed", m, d, e, nil)
	if !reflect.DeepEqual(m.Hard(), h) || m.Leader() != 0 {
		t.Error("a message of an earlier Term changes something")
	}
	for i, x := range []api.Msg{
		{Kind: api.Vote, From: 2, Term: 6, Flag: true}, {Kind: api.Fed, From: 2, Term: 6, Flag: true, Index: 1}, {Kind: api.Fed, From: 2, Term: 6},
	} {
		for _, m := range []*Machine{lead(t), mustNew(t, 1, h)} {
			d, e := take(t, m, x)
			is(t, "a later Term", m, d, e, recs(voted(6, 0)))
			if m.Leader() != 0 || m.role != follows {
				t.Errorf("case %d: the machine does not follow", i)
			}
		}
	}
	m = lead(t)
	d, e = take(t, m, api.Msg{Kind: api.Ship, From: 2, Term: math.MaxUint64, Shot: picture(1<<61+1, 4, 1)})
	is(t, "a Ship too far", m, d, e, recs(voted(math.MaxUint64, 0)))
	if m.Leader() != 0 {
		t.Error("a Ship too far tells a leader")
	}
	d, e = m.Stand()
	refused(t, "Stand at the last Term", d, e, api.ErrFull)
}

// P16.2: Ask.
func TestAsk(t *testing.T) {
	with := func(vote int) *Machine {
		return mustNew(t, 1, api.Hard{Term: 5, Vote: vote, Shot: picture(4, 2, 1, 2, 3), Log: []api.Entry{noop(3)}})
	}
	for i, x := range []struct {
		vote           int
		term           uint64
		index, logTerm uint64
		flag           bool
		recs           []api.Rec
	}{
		{0, 5, 5, 3, true, recs(voted(5, 2))}, {2, 5, 5, 3, true, nil}, {3, 5, 5, 3, false, nil}, {1, 5, 9, 5, false, nil},
		{0, 5, 4, 3, false, nil}, {0, 5, 9, 2, false, nil}, {2, 5, 4, 3, false, nil}, {0, 5, 1, 4, true, recs(voted(5, 2))},
		{3, 6, 5, 3, true, recs(voted(6, 0), voted(6, 2))}, {3, 6, 5, 2, false, recs(voted(6, 0))}, {3, 6, 0, 0, false, recs(voted(6, 0))},
	} {
		m := with(x.vote)
		d, e := take(t, m, api.Msg{Kind: api.Ask, From: 2, Term: x.term, Index: x.index, LogTerm: x.logTerm})
		is(t, "Ask", m, d, e, x.recs, api.Msg{Kind: api.Vote, To: 2, Flag: x.flag})
		if m.Leader() != 0 {
			t.Errorf("case %d: there is a leader", i)
		}
	}
	m := lead(t)
	d, e := take(t, m, api.Msg{Kind: api.Ask, From: 2, Term: 1, Index: 9, LogTerm: 1})
	is(t, "Ask of a leader", m, d, e, nil, api.Msg{Kind: api.Vote, To: 2})
	if m.Leader() != 1 {
		t.Error("an Ask of the same Term ends the leadership")
	}
}

// P16.3, P16.2: an election, as in the document's example.
func TestElection(t *testing.T) {
	m := three(t, 1)
	d, e := m.Stand()
	is(t, "Stand", m, d, e, recs(voted(1, 1)), api.Msg{Kind: api.Ask, To: 2}, api.Msg{Kind: api.Ask, To: 3})
	for _, x := range []api.Msg{{Kind: api.Vote, From: 2, Term: 1}, {Kind: api.Vote, From: 7, Term: 1, Flag: true}} {
		d, e = take(t, m, x)
		is(t, "a Vote that does not count", m, d, e, nil)
	}
	d, e = m.Stand()
	is(t, "Stand again", m, d, e, recs(voted(2, 1)), api.Msg{Kind: api.Ask, To: 2}, api.Msg{Kind: api.Ask, To: 3})
	d, e = take(t, m, api.Msg{Kind: api.Vote, From: 2, Term: 2, Flag: true})
	l := []api.Entry{noop(2)}
	is(t, "Vote", m, d, e, recs(added(1, noop(2))), api.Msg{Kind: api.Feed, To: 2, Entries: l}, api.Msg{Kind: api.Feed, To: 3, Entries: l})
	if m.Leader() != 1 || m.Commit() != 0 {
		t.Errorf("the leader is %d, and Commit %d", m.Leader(), m.Commit())
	}
	d, e = take(t, m, api.Msg{Kind: api.Vote, From: 3, Term: 2, Flag: true})
	is(t, "one more Vote", m, d, e, nil)
	d, e = take(t, m, api.Msg{Kind: api.Fed, From: 2, Term: 2, Flag: true, Index: 1})
	is(t, "Fed", m, d, e, nil)
	if m.Commit() != 1 {
		t.Errorf("Commit is %d", m.Commit())
	}
	d, e = m.Stand()
	refused(t, "Stand of a leader", d, e, api.ErrState)
	// The last node's vote counts like any other.
	m = mustNew(t, 1, api.Hard{Shot: picture(0, 0, 1, 6, 7)})
	m.Stand()
	take(t, m, api.Msg{Kind: api.Vote, From: 7, Term: 1, Flag: true})
	if m.Leader() != 1 {
		t.Error("the vote of node 7 does not count")
	}
	// Votes of an earlier candidacy do not count for the next one.
	m = mustNew(t, 1, api.Hard{Shot: picture(0, 0, 1, 2, 3, 4, 5)})
	m.Stand()
	take(t, m, api.Msg{Kind: api.Vote, From: 2, Term: 1, Flag: true})
	m.Stand()
	take(t, m, api.Msg{Kind: api.Vote, From: 3, Term: 2, Flag: true})
	if m.Leader() != 0 {
		t.Error("two votes of five make a leader")
	}
}

// P16.3: a node alone, one that does not vote, and what Stand asks with.
func TestStand(t *testing.T) {
	m := mustNew(t, 4, api.Hard{Shot: picture(0, 0, 4)})
	d, e := m.Beat()
	refused(t, "Beat", d, e, api.ErrLead)
	d, e = m.Stand()
	is(t, "Stand", m, d, e, recs(voted(1, 4), added(1, noop(1))))
	if m.Leader() != 4 || m.Commit() != 1 {
		t.Errorf("the leader is %d, and Commit %d", m.Leader(), m.Commit())
	}
	if _, e = m.Propose(grantCmd(1, 1)); e != api.OK || m.Commit() != 2 {
		t.Errorf("Propose of a node alone is %d, and Commit %d", e, m.Commit())
	}
	d, e = m.Beat()
	is(t, "Beat", m, d, e, nil)
	m = mustNew(t, 3, api.Hard{Term: 1 << 62, Shot: picture(5, 2, 1, 2)})
	d, e = m.Stand()
	refused(t, "Stand of one that does not vote", d, e, api.ErrConf)
	m = mustNew(t, 1, api.Hard{Term: 1 << 62, Shot: picture(5, 2, 1, 2)})
	d, e = m.Stand()
	refused(t, "Stand at a late Term", d, e, api.ErrFull)
	m = mustNew(t, 2, api.Hard{Term: 1<<62 - 1, Shot: picture(5, 2, 1, 2), Log: []api.Entry{noop(7)}})
	take(t, m, api.Msg{Kind: api.Feed, From: 1, Term: 1<<62 - 1, Index: 9, LogTerm: 8})
	if m.Leader() != 1 {
		t.Error("a Feed tells no leader")
	}
	d, e = m.Stand()
	is(t, "Stand", m, d, e, recs(voted(1<<62, 2)), api.Msg{Kind: api.Ask, To: 1, Index: 6, LogTerm: 7})
	if m.Leader() != 0 {
		t.Error("who stands knows a leader")
	}
}

// P16.2: Feed.
func TestFeed(t *testing.T) {
	feed := func(index, term, commit uint64, l ...api.Entry) api.Msg {
		return api.Msg{Kind: api.Feed, From: 2, Term: 5, Index: index, LogTerm: term, Commit: commit, Entries: l}
	}
	for i, x := range []struct {
		m      api.Msg
		recs   []api.Rec
		out    []api.Msg
		commit uint64
	}{
		{feed(6, 3, 0), nil, []api.Msg{{Kind: api.Fed, To: 2, Flag: true, Index: 6}}, 4}, {feed(6, 3, 99), nil, []api.Msg{{Kind: api.Fed, To: 2, Flag: true, Index: 6}}, 6},
		{feed(5, 3, 99), nil, []api.Msg{{Kind: api.Fed, To: 2, Flag: true, Index: 5}}, 5}, {feed(6, 3, 5, noop(5)), recs(added(7, noop(5))), []api.Msg{{Kind: api.Fed, To: 2, Flag: true, Index: 7}}, 5},
		{feed(5, 3, 99, noop(4), noop(5)), recs(api.Rec{Kind: api.Cut, Index: 6}, added(6, noop(4)), added(7, noop(5))), []api.Msg{{Kind: api.Fed, To: 2, Flag: true, Index: 7}}, 7},
		{feed(2, 1, 99, noop(2)), nil, []api.Msg{{Kind: api.Fed, To: 2, Flag: true, Index: 3}}, 4}, {feed(0, 0, 0), nil, []api.Msg{{Kind: api.Fed, To: 2, Flag: true, Index: 0}}, 4},
		{feed(9, 3, 99), nil, []api.Msg{{Kind: api.Fed, To: 2, Index: 6}}, 4}, {feed(6, 2, 99), nil, []api.Msg{{Kind: api.Fed, To: 2, Index: 5}}, 4}, {feed(5, 4, 99, noop(4)), nil, []api.Msg{{Kind: api.Fed, To: 2, Index: 4}}, 4},
		{feed(4, 1, 99), nil, []api.Msg{{Kind: api.Fed, To: 2, Index: 3}}, 4},
	} {
		m := mustNew(t, 1, api.Hard{Term: 5, Vote: 1, Shot: picture(4, 2, 1, 2, 3), Log: []api.Entry{noop(3), noop(3)}})
		d, e := take(t, m, x.m)
		is(t, "Feed", m, d, e, x.recs, x.out...)
		if m.Commit() != x.commit || m.Leader() != 2 {
			t.Errorf("case %d: Commit is %d, and the leader %d", i, m.Commit(), m.Leader())
		}
	}
	// An index before the first one there is none.
	own := mustNew(t, 1, api.Hard{Term: 5, Shot: picture(0, 0, 1, 2, 3), Log: []api.Entry{noop(3), noop(3)}})
	d, e := take(t, own, feed(1, 4, 0))
	is(t, "Feed", own, d, e, nil, api.Msg{Kind: api.Fed, To: 2})
	// What is committed stays, and nobody answers.
	m := mustNew(t, 1, api.Hard{Term: 5, Shot: picture(4, 2, 1, 2, 3), Log: []api.Entry{noop(3), noop(3)}})
	take(t, m, feed(6, 3, 6))
	d, e = take(t, m, feed(5, 3, 0, noop(5)))
	is(t, "a Feed that breaks", m, d, e, nil)
	// Who stands follows then, and who leads does not.
	m = three(t, 1)
	m.Stand()
	d, e = take(t, m, api.Msg{Kind: api.Feed, From: 3, Term: 1})
	is(t, "Feed", m, d, e, nil, api.Msg{Kind: api.Fed, To: 3, Flag: true})
	take(t, m, api.Msg{Kind: api.Vote, From: 2, Term: 1, Flag: true})
	if m.Leader() != 3 {
		t.Errorf("the leader is %d", m.Leader())
	}
	m = lead(t)
	d, e = take(t, m, api.Msg{Kind: api.Feed, From: 3, Term: 1})
	is(t, "Feed of a leader", m, d, e, nil)
	if m.Leader() != 1 {
		t.Errorf("the leader is %d", m.Leader())
	}
}

// P16.2: Fed.
func TestFed(t *testing.T) {
	fed := func(from int, flag bool, index uint64) api.Msg {
		return api.Msg{Kind: api.Fed, From: from, Term: 1, Flag: flag, Index: index}
	}
	m := three(t, 1)
	take(t, m, api.Msg{Kind: api.Vote, From: 2, Term: 1})
	d, e := take(t, m, fed(2, true, 0))
	is(t, "Fed of one that does not lead", m, d, e, nil)
	m = agreed(t)
	for i := range uint64(6) {
		if _, e := m.Propose(grantCmd(1, i+1)); e != api.OK {
			t.Fatalf("Propose is %d", e)
		}
	}
	// There are seven entries; node 2 has one of them.
	for _, x := range []api.Msg{fed(4, true, 7), fed(2, true, 8), fed(2, true, math.MaxUint64), fed(3, true, 8)} {
		d, e = take(t, m, x)
		is(t, "a Fed that does not count", m, d, e, nil)
	}
	entries := func(from, to uint64) []api.Entry { return rlog.Slice(m.Hard(), from, int(to-from)) }
	d, e = take(t, m, fed(2, false, math.MaxUint64))
	is(t, "a Fed without Flag from beyond", m, d, e, nil)
	d, e = take(t, m, fed(2, false, 0))
	is(t, "a Fed without Flag from below Match", m, d, e, nil, api.Msg{Kind: api.Feed, To: 2, Index: 1, LogTerm: 1, Commit: 1, Entries: entries(2, 6)})
	d, e = take(t, m, fed(3, false, 0))
	is(t, "a Fed without Flag", m, d, e, nil, api.Msg{Kind: api.Feed, To: 3, Commit: 1, Entries: entries(1, 5)})
	d, e = take(t, m, fed(3, true, 3))
	is(t, "a Fed", m, d, e, nil, api.Msg{Kind: api.Feed, To: 3, Index: 3, LogTerm: 1, Commit: 3, Entries: entries(4, 8)})
	d, e = take(t, m, fed(3, true, 2))
	is(t, "a late Fed", m, d, e, nil, api.Msg{Kind: api.Feed, To: 3, Index: 3, LogTerm: 1, Commit: 3, Entries: entries(4, 8)})
	d, e = take(t, m, fed(3, false, 1))
	is(t, "a late Fed without Flag", m, d, e, nil, api.Msg{Kind: api.Feed, To: 3, Index: 3, LogTerm: 1, Commit: 3, Entries: entries(4, 8)})
	d, e = take(t, m, fed(2, true, 7))
	is(t, "the last Fed", m, d, e, nil)
	if m.Commit() != 7 {
		t.Errorf("Commit is %d", m.Commit())
	}
	m.Squash()
	d, e = take(t, m, fed(3, true, 3))
	is(t, "a Fed behind a snapshot", m, d, e, nil, api.Msg{Kind: api.Ship, To: 3, Shot: m.Hard().Shot})
	d, e = m.Beat()
	if len(d.Out) != 2 || d.Out[0].Kind != api.Feed || d.Out[1].Kind != api.Ship || e != api.OK {
		t.Errorf("Beat is %v, %d", d, e)
	}
}

// P16.2: Ship, and how a leader sends one.
func TestShip(t *testing.T) {
	m := agreed(t)
	d, e := m.Squash()
	is(t, "Squash", m, d, e, recs(api.Rec{Kind: api.Shots, Shot: d.Recs[0].Shot}))
	if s := d.Recs[0].Shot; s.Index != 1 || s.Term != 1 || shot.Check(s) != api.OK {
		t.Errorf("the snapshot is %v", s)
	}
	s := m.Hard().Shot
	d, e = m.Squash()
	refused(t, "Squash again", d, e, api.ErrNone)
	m.Propose(grantCmd(1, 1))
	d, e = m.Beat()
	is(t, "Beat", m, d, e, nil,
		api.Msg{Kind: api.Feed, To: 2, Index: 1, LogTerm: 1, Commit: 1, Entries: rlog.Slice(m.Hard(), 2, 4)}, api.Msg{Kind: api.Ship, To: 3, Shot: s})
	d.Out[1].Shot.Nodes[0] = 77
	d, e = take(t, m, api.Msg{Kind: api.Fed, From: 3, Term: 1, Flag: true, Index: 1})
	is(t, "Fed", m, d, e, nil, api.Msg{Kind: api.Feed, To: 3, Index: 1, LogTerm: 1, Commit: 1, Entries: rlog.Slice(m.Hard(), 2, 4)})
	for i, x := range []struct {
		s      api.Shot
		recs   bool
		commit uint64
		log    int
	}{
		{picture(7, 4, 1, 2), true, 7, 0}, {picture(5, 3, 1, 2), true, 5, 1}, {picture(5, 4, 1), true, 5, 0}, {picture(4, 2, 1, 2), false, 4, 2}, {picture(3, 2, 1), false, 4, 2}, {picture(1<<61, 5, 1), true, 1 << 61, 0},
	} {
		m := mustNew(t, 1, api.Hard{Term: 5, Vote: 1, Shot: picture(4, 2, 1, 2, 3), Log: []api.Entry{noop(3), noop(3)}})
		d, e := take(t, m, api.Msg{Kind: api.Ship, From: 3, Term: 5, Shot: x.s})
		var want []api.Rec
		if x.recs {
			want = recs(api.Rec{Kind: api.Shots, Shot: x.s})
		}
		is(t, "Ship", m, d, e, want, api.Msg{Kind: api.Fed, To: 3, Flag: true, Index: x.s.Index})
		if m.Commit() != x.commit || m.Leader() != 3 || len(m.Hard().Log) != x.log {
			t.Errorf("case %d: Commit is %d, the leader %d, and there are %d entries", i, m.Commit(), m.Leader(), len(m.Hard().Log))
		}
	}
	// Who stands follows then.
	m = three(t, 1)
	m.Stand()
	take(t, m, api.Msg{Kind: api.Ship, From: 3, Term: 1, Shot: picture(1, 1, 1, 2, 3)})
	take(t, m, api.Msg{Kind: api.Vote, From: 2, Term: 1, Flag: true})
	if m.Leader() != 3 {
		t.Errorf("the leader is %d", m.Leader())
	}
	m = lead(t)
	d, e = take(t, m, api.Msg{Kind: api.Ship, From: 3, Term: 1, Shot: picture(9, 1, 1)})
	is(t, "Ship of a leader", m, d, e, nil)
	if m.Leader() != 1 {
		t.Error("a Ship ends the leadership")
	}
}

// P16.4, P16.2: proposals, and those that come by Put.
func TestPropose(t *testing.T) {
	m := three(t, 1)
	for _, c := range []api.Cmd{{}, {Kind: api.Noop}, grantCmd(8, 1)} {
		d, e := m.Propose(c)
		refused(t, "Propose of what may not be", d, e, api.ErrCmd)
	}
	d, e := m.Propose(grantCmd(1, 1))
	refused(t, "Propose of one that follows", d, e, api.ErrLead)
	put := api.Msg{Kind: api.Put, From: 2, Entries: []api.Entry{{Cmd: grantCmd(2, 1)}}}
	d, e = take(t, m, put)
	is(t, "Put", m, d, e, nil)
	m = agreed(t)
	feed := func(to int, index, term uint64, l ...api.Entry) api.Msg {
		return api.Msg{Kind: api.Feed, To: to, Index: index, LogTerm: term, Commit: 1, Entries: l}
	}
	one, two := api.Entry{Term: 1, Cmd: grantCmd(1, 1)}, api.Entry{Term: 1, Cmd: grantCmd(2, 1)}
	d, e = m.Propose(grantCmd(1, 1))
	is(t, "Propose", m, d, e, recs(added(2, one)), feed(2, 1, 1, one), feed(3, 0, 0, noop(1), one))
	d, e = take(t, m, put)
	is(t, "Put", m, d, e, recs(added(3, two)), feed(2, 1, 1, one, two), feed(3, 0, 0, noop(1), one, two))
	for seq := uint64(2); len(m.Hard().Log) < api.MaxLog; seq++ {
		m.Propose(grantCmd(1, seq))
	}
	d, e = m.Propose(grantCmd(1, 99))
	refused(t, "Propose of one too many", d, e, api.ErrFull)
	d, e = m.Propose(confCmd(1))
	refused(t, "Propose of a Conf too many", d, e, api.ErrFull)
	d, e = take(t, m, put)
	is(t, "Put of one too many", m, d, e, nil)
	m.Squash()
	if _, e = m.Propose(grantCmd(1, 99)); e != api.OK {
		t.Errorf("Propose behind a snapshot is %d", e)
	}
}

// P16.4: changes of the nodes.
func TestChange(t *testing.T) {
	m := lead(t)
	d, e := m.Propose(confCmd(1, 2))
	refused(t, "a Conf before Commit is of this Term", d, e, api.ErrConf)
	m = agreed(t)
	for _, l := range [][]int{{1, 2, 3}, {2, 3}, {1}, {1, 2, 4}, {1, 2, 3, 4, 5}} {
		d, e := m.Propose(confCmd(l...))
		refused(t, "a Conf that is no step", d, e, api.ErrConf)
	}
	c := api.Entry{Term: 1, Cmd: confCmd(1, 2, 3, 4)}
	d, e = m.Propose(c.Cmd)
	feed := func(to int, index, term uint64, l ...api.Entry) api.Msg {
		return api.Msg{Kind: api.Feed, To: to, Index: index, LogTerm: term, Commit: 1, Entries: l}
	}
	is(t, "Conf", m, d, e, recs(added(2, c)), feed(2, 1, 1, c), feed(3, 0, 0, noop(1), c), feed(4, 1, 1, c))
	if !slices.Equal(m.Nodes(), []int{1, 2, 3, 4}) {
		t.Errorf("the nodes are %v", m.Nodes())
	}
	d, e = m.Propose(confCmd(1, 2, 3))
	refused(t, "a Conf before the last one is committed", d, e, api.ErrConf)
	take(t, m, api.Msg{Kind: api.Fed, From: 2, Term: 1, Flag: true, Index: 2})
	if m.Commit() != 1 {
		t.Error("two of four are a majority")
	}
	take(t, m, api.Msg{Kind: api.Fed, From: 4, Term: 1, Flag: true, Index: 2})
	if m.Commit() != 2 {
		t.Errorf("Commit is %d", m.Commit())
	}
	c.Cmd.Nodes[0] = 77
	if !slices.Equal(m.Nodes(), []int{1, 2, 3, 4}) {
		t.Error("Propose keeps its argument's memory")
	}
	// A node that goes and comes back starts anew.
	if _, e := m.Propose(confCmd(1, 2, 3)); e != api.OK {
		t.Fatalf("Propose is %d", e)
	}
	take(t, m, api.Msg{Kind: api.Fed, From: 2, Term: 1, Flag: true, Index: 3})
	if m.Commit() != 3 {
		t.Fatalf("Commit is %d", m.Commit())
	}
	d, e = take(t, m, api.Msg{Kind: api.Fed, From: 4, Term: 1, Flag: true, Index: 2})
	is(t, "a Fed of one that does not vote", m, d, e, nil)
	d, _ = m.Propose(confCmd(1, 2, 3, 4))
	if x := d.Out[2]; x.To != 4 || x.Index != 3 || len(x.Entries) != 1 {
		t.Errorf("the node that comes back is sent %v", x)
	}
	take(t, m, api.Msg{Kind: api.Fed, From: 4, Term: 1, Index: 0})
	if d, _ = m.Beat(); d.Out[2].Index != 0 {
		t.Errorf("the node that comes back has a Match: it is sent %v", d.Out[2])
	}
}

// P16.2: an entry of an earlier Term is not counted by itself.
func TestEarlierTerm(t *testing.T) {
	m := mustNew(t, 1, api.Hard{Term: 4, Shot: picture(4, 2, 1, 2, 3), Log: []api.Entry{noop(3)}})
	m.Stand()
	take(t, m, api.Msg{Kind: api.Vote, From: 2, Term: 5, Flag: true})
	take(t, m, api.Msg{Kind: api.Fed, From: 2, Term: 5, Flag: true, Index: 5})
	if m.Commit() != 4 {
		t.Errorf("Commit is %d", m.Commit())
	}
	take(t, m, api.Msg{Kind: api.Fed, From: 2, Term: 5, Flag: true, Index: 6})
	if m.Commit() != 6 {
		t.Errorf("Commit is %d", m.Commit())
	}
}

// A machine that was not made does nothing.
func TestNoMachine(t *testing.T) {
	for _, m := range []*Machine{nil, {}} {
		m.Take(api.Msg{Kind: api.Vote, From: 1, To: 2, Term: 1})
		m.Stand()
		m.Beat()
		m.Propose(grantCmd(1, 1))
		m.Squash()
		if hard.Check(m.Hard()) == api.OK || m.Commit() != 0 || m.Leader() != 0 || len(m.Nodes()) != 0 {
			t.Error("a machine that was not made does something")
		}
	}
}
