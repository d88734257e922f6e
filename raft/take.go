package raft

import (
	"stopcock/api"
	"stopcock/msg"
	"stopcock/nodes"
	"stopcock/rlog"
	"stopcock/values"
)

// Take processes a message.
func (m *Machine) Take(x api.Msg) (Deed, api.Errno) {
	if m == nil || msg.Check(x) != api.OK || x.To != m.self {
		return Deed{}, api.ErrMsg
	}
	if x.Kind == api.Put {
		d, _ := m.Propose(x.Entries[0].Cmd) // nothing if the machine does not lead
		return d, api.OK
	}
	var d Deed
	if x.Term < m.hard.Term {
		m.refuse(&d, x)
		return d, api.OK
	}
	if x.Term > m.hard.Term {
		m.follow(&d, x.Term)
	}
	switch x.Kind {
	case api.Ask:
		m.asked(&d, x)
	case api.Vote:
		m.votedFor(&d, x)
	case api.Feed:
		m.fed(&d, x)
	case api.Fed:
		m.reached(&d, x)
	case api.Ship:
		m.shipped(&d, x)
	}
	return d, api.OK
}

// refuse answers a message of an earlier Term.
func (m *Machine) refuse(d *Deed, x api.Msg) {
	switch x.Kind {
	case api.Ask:
		m.send(d, api.Msg{Kind: api.Vote, To: x.From})
	case api.Feed, api.Ship:
		m.send(d, api.Msg{Kind: api.Fed, To: x.From, Index: m.last()})
	}
}

// asked answers an Ask of this Term.
func (m *Machine) asked(d *Deed, x api.Msg) {
	free := m.hard.Vote == 0
	yes := (free || m.hard.Vote == x.From) && rlog.Newer(m.hard, x.Index, x.LogTerm)
	if yes && free {
		m.apply(d, api.Rec{Kind: api.Voted, Term: m.hard.Term, Vote: x.From})
	}
	m.send(d, api.Msg{Kind: api.Vote, To: x.From, Flag: yes})
}

// votedFor counts a Vote of this Term.
func (m *Machine) votedFor(d *Deed, x api.Msg) {
	if m.role == stands && x.Flag {
		m.voted.put(x.From, true)
		m.elected(d)
	}
}

// fed takes a Feed of this Term.
func (m *Machine) fed(d *Deed, x api.Msg) {
	if m.role == leads {
		return
	}
	m.role = follows
	m.leader = x.From
	kind, recs := rlog.Merge(m.hard, x.Index, x.LogTerm, m.commit, x.Entries)
	switch kind {
	case rlog.Lacks:
		m.send(d, api.Msg{Kind: api.Fed, To: x.From, Index: min(m.last(), max(x.Index, 1)-1)})
	case rlog.Fits:
		for _, r := range recs {
			m.apply(d, r)
		}
		end := x.Index + uint64(len(x.Entries))
		m.commit = max(m.commit, min(x.Commit, end))
		m.send(d, api.Msg{Kind: api.Fed, To: x.From, Flag: true, Index: end})
	}
}

// reached takes a Fed of this Term.
func (m *Machine) reached(d *Deed, x api.Msg) {
	last := m.last()
	if m.role != leads || !nodes.Has(m.others(), x.From) || x.Flag && x.Index > last {
		return
	}
	r := m.reach.of(x.From)
	if x.Flag {
		r.match = max(r.match, x.Index)
		r.next = max(r.next, x.Index+1)
	} else {
		r.next = max(min(x.Index, last)+1, r.match+1)
	}
	m.reach.put(x.From, r)
	m.count()
	if r.next <= m.last() {
		m.feed(d, x.From)
	}
}

// shipped takes a Ship of this Term.
func (m *Machine) shipped(d *Deed, x api.Msg) {
	if m.role == leads || x.Shot.Index > lastIndex {
		return
	}
	m.role = follows
	m.leader = x.From
	if x.Shot.Index > m.commit {
		m.apply(d, api.Rec{Kind: api.Shots, Shot: values.CopyShot(x.Shot)})
		m.commit = x.Shot.Index
	}
	m.send(d, api.Msg{Kind: api.Fed, To: x.From, Flag: true, Index: x.Shot.Index})
}
