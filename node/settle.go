package node

import (
	"stopcock/api"
	"stopcock/ledger"
	"stopcock/msg"
	"stopcock/mux"
	"stopcock/pool"
)

// apply brings the ledger to where Commit is, and shows it to the keeper if the node leads.
func (n *Node) apply() {
	if n.machine.Commit() == n.applied && !n.leads() {
		return
	}
	h := n.machine.Hard()
	for n.machine.Commit() > n.applied {
		if n.applied < h.Shot.Index {
			n.adopt(h.Shot)
		} else {
			n.execute(h.Log[n.applied-h.Shot.Index].Cmd)
		}
	}
	// Who stops leading in a Term never leads in it again: so the last one tells whether it led before.
	switch {
	case !n.leads():
	case n.led == h.Term:
		n.keeper.Sees(n.time, n.ledger)
	default:
		n.keeper.Leads(n.time, n.ledger)
		n.led = h.Term
	}
}

// adopt takes the ledger of a snapshot; the outcome of the pending request may be in it.
func (n *Node) adopt(s api.Shot) {
	n.ledger = s.Ledger
	n.applied = s.Index
	c, pending := n.wallet.Asked()
	if !pending {
		return
	}
	for _, last := range s.Ledger.Last {
		if last.Node == n.self && last.Boot == c.Boot && last.Seq == c.Seq {
			n.receive(last.Answer)
			return
		}
	}
}

// execute applies the next command, which may be the pending request.
func (n *Node) execute(c api.Cmd) {
	n.applied++
	next, a, e := ledger.Apply(n.ledger, n.applied, c)
	if e != api.OK {
		return
	}
	n.ledger = next
	if asked, pending := n.wallet.Asked(); pending && same(c, asked) {
		n.receive(a)
	}
}

// same tells whether a command is a certain request.
func same(c, request api.Cmd) bool {
	return c.Node == request.Node && c.Boot == request.Boot && c.Seq == request.Seq
}

// receive takes the outcome of the pending request.
func (n *Node) receive(a api.Answer) {
	c, _ := n.wallet.Asked()
	n.wallet.Told(a)
	switch {
	case c.Kind == api.Grant && a.Code == api.Granted:
		n.open(a.Token)
	case c.Kind == api.Grant && a.Code == api.Refused:
		n.refused = true
		n.move()
	case c.Kind == api.Renew && a.Code == api.Gone:
		n.lose(c.Token)
	}
}

// open opens the connection of a token that was granted, if it is trusted.
func (n *Node) open(token int) {
	trusted := false
	for _, t := range n.wallet.All() {
		trusted = trusted || t.Token == token
	}
	if !trusted {
		return
	}
	sess, e := n.pool.Open(token)
	if e != api.OK {
		n.wallet.Drop(token)
		return
	}
	n.got(sess)
}

// got tells a session, if it is one, that it has a connection.
func (n *Node) got(sess int) { n.session(sess).Got() }

// lose closes the connection of a token, if there is one.
func (n *Node) lose(token int) {
	sess, _ := n.pool.Close(token)
	delete(n.queries, token)
	n.session(sess).Lost()
}

// leave takes from a session its connection or its place among those that wait; the connection goes to the next one.
func (n *Node) leave(sess int) {
	next, _ := n.pool.Leave(sess)
	n.got(next)
}

// holder returns the session that has the connection of a token, or 0.
func (n *Node) holder(token int) int {
	for _, c := range n.pool.Conns() {
		if c.Token == token {
			return c.Sess
		}
	}
	return 0
}

// idle tells whether there is a connection of a token, and nobody has it.
func (n *Node) idle(token int) bool {
	for _, c := range n.pool.Conns() {
		if c == (pool.Conn{Token: token}) {
			return true
		}
	}
	return false
}

// move tells the waiting sessions to go to the node that holds the most tokens, if this one has no connection.
func (n *Node) move() {
	to := n.richest()
	if to == 0 || len(n.pool.Conns()) > 0 {
		return
	}
	for _, sess := range n.pool.Waits() {
		n.pool.Leave(sess)
		n.session(sess).Turn(api.Reply{Kind: api.Moved, Node: to})
	}
}

// richest returns the node beside this one that holds the most tokens, or 0.
func (n *Node) richest() int {
	best, most := 0, 0
	for k := 1; k <= api.MaxNodes; k++ {
		if many := len(ledger.Of(n.ledger, k)); k != n.self && many > most {
			best, most = k, many
		}
	}
	return best
}

// serve lets the sessions do what they can, those with lower numbers first.
func (n *Node) serve() {
	for n.serveOne() {
	}
}

// serveOne lets one session do one thing, and tells whether there was something to do.
func (n *Node) serveOne() bool {
	for sess := 1; sess <= api.MaxSess; sess++ {
		s := n.session(sess)
		action, text := s.Next()
		switch action {
		case mux.Want:
			n.want(sess)
		case mux.Pass:
			n.queries[n.pool.Has(sess)] = query{text: text}
		case mux.Give:
			n.leave(sess)
		default:
			continue
		}
		return true
	}
	return false
}

// want gives a session a connection, or lets it wait if there is room.
func (n *Node) want(sess int) {
	token, e := n.pool.Want(sess)
	if e == api.ErrBusy {
		n.session(sess).Turn(api.Reply{Kind: api.Busy})
	} else if token > 0 {
		n.got(sess)
	}
}

// request makes the next request, if none is pending and there is something to ask for.
func (n *Node) request() {
	if _, pending := n.wallet.Asked(); pending {
		return
	}
	c := n.wish()
	if c.Kind == 0 {
		return
	}
	n.requests++
	c.Node, c.Boot, c.Seq = n.self, n.machine.Hard().Boot, n.requests
	n.wallet.Ask(c)
	n.submit()
}

// wish returns what to ask for, without the number of the request; its Kind is 0 if there is nothing.
func (n *Node) wish() api.Cmd {
	for _, t := range n.wallet.All() {
		if 2*(t.Until-n.time) > n.short {
			continue
		}
		if !n.idle(t.Token) {
			return api.Cmd{Kind: api.Renew, Token: t.Token, Serial: t.Serial}
		}
		n.lose(t.Token)
		n.wallet.Drop(t.Token)
		return api.Cmd{Kind: api.Release, Token: t.Token, Serial: t.Serial}
	}
	if len(n.pool.Waits()) > 0 && len(n.pool.Conns()) < api.MaxConns && !n.refused {
		return api.Cmd{Kind: api.Grant}
	}
	return api.Cmd{}
}

// submit brings the pending request, if there is one, to the leader.
func (n *Node) submit() {
	c, pending := n.wallet.Asked()
	if !pending {
		return
	}
	if n.leads() {
		if !n.logged(c) {
			n.propose(c)
		}
		return
	}
	put := api.Msg{Kind: api.Put, From: n.self, To: n.machine.Leader(), Entries: []api.Entry{{Cmd: c}}}
	if msg.Check(put) == api.OK {
		n.out = append(n.out, put)
	}
}

// logged tells whether a request stands in the log already.
func (n *Node) logged(c api.Cmd) bool {
	for _, x := range n.machine.Hard().Log {
		if same(x.Cmd, c) {
			return true
		}
	}
	return false
}

// propose proposes a command; if that can't be now, nothing happens.
func (n *Node) propose(c api.Cmd) {
	if n.failed {
		return
	}
	if d, e := n.machine.Propose(c); e == api.OK {
		n.perform(d)
	}
}
