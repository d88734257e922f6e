package world

import (
	"slices"

	"stopcock/api"
	"stopcock/drift"
	"stopcock/msg"
	"stopcock/net"
	"stopcock/node"
	"stopcock/pool"
)

// mostLetters is how many letters a Round delivers in one go.
const mostLetters = 400

// operation is a call of a node.
type operation func(*node.Node) ([]api.Msg, api.Errno)

// with binds the argument of a call.
func with[A any](call func(*node.Node, A) ([]api.Msg, api.Errno), a A) operation {
	return func(n *node.Node) ([]api.Msg, api.Errno) { return call(n, a) }
}

// withText binds the arguments of a call that takes a text.
func withText(call func(*node.Node, int, string) ([]api.Msg, api.Errno), i int, text string) operation {
	return func(n *node.Node) ([]api.Msg, api.Errno) { return call(n, i, text) }
}

// Do performs an act.
func (w *World) Do(a api.Act) api.Errno {
	if w == nil {
		return api.ErrArg
	}
	switch a.Kind {
	case api.Pass:
		return w.pass(a.Real, a.Clocks)
	case api.Deliver:
		return w.deliver(a.B)
	case api.Drop:
		_, e := w.net.Take(a.B)
		return e
	case api.Double:
		return w.net.Double(a.B)
	case api.Round:
		w.round()
		return api.OK
	}
	if !w.isNode(a.A) {
		return api.ErrArg
	}
	switch a.Kind {
	case api.Crash:
		w.places[a.A].disk.Crash(a.Keep)
		w.fall(a.A)
		return api.OK
	case api.Start:
		return w.start(a.A)
	}
	return w.ask(a)
}

// ask performs an act for which a node must be up.
func (w *World) ask(a api.Act) api.Errno {
	var call operation
	switch a.Kind {
	case api.Stand:
		call = (*node.Node).Stand
	case api.Beat:
		call = (*node.Node).Beat
	case api.Squash:
		call = (*node.Node).Squash
	case api.Change:
		call = with((*node.Node).Change, a.Nodes)
	case api.Send:
		call = withText((*node.Node).Client, a.B, a.Bytes)
	case api.Hang:
		call = with((*node.Node).Hang, a.B)
	case api.Serve:
		call = withText((*node.Node).Serve, a.B, a.Bytes)
	case api.Arm:
	default:
		return api.ErrArg
	}
	switch {
	case !w.Up(a.A):
		return api.ErrDown
	case a.Kind == api.Arm:
		w.places[a.A].disk.Arm(a.B)
		return api.OK
	case a.Kind == api.Serve && len(a.Bytes) > api.MaxText:
		return api.ErrLong
	case a.Kind == api.Send:
		w.begin(a.A, a.B)
	}
	return w.call(a.A, call)
}

// begin counts a session that begins if a client sends something now.
func (w *World) begin(n, sess int) {
	if sess >= 1 && sess <= api.MaxSess && !w.Session(n, sess) {
		w.places[n].lives[sess]++
	}
}

// call calls a node that is up, and records the effects.
func (w *World) call(n int, call operation) api.Errno {
	before := w.conns(n)
	out, e := call(w.up(n))
	if e == api.ErrDown {
		w.fall(n)
		return e
	}
	after := w.conns(n)
	w.note(api.Closed, n, before, after)
	w.note(api.Opened, n, after, before)
	for _, x := range out {
		w.post(x)
	}
	w.hear(n)
	return e
}

// note records the connections that are in one list, and not with their tokens in another one.
func (w *World) note(kind, n int, in, out []pool.Conn) {
	for _, c := range in {
		there := slices.ContainsFunc(out, func(d pool.Conn) bool { return d.Token == c.Token })
		if !there {
			w.seen = append(w.seen, api.Seen{Kind: kind, Node: n, Token: c.Token})
		}
	}
}

// post sends a message; it is lost if the network does not take it.
func (w *World) post(x api.Msg) {
	if b, e := msg.Encode(x); e == api.OK {
		w.net.Send(net.Letter{From: x.From, To: x.To, Bytes: string(b)})
	}
}

// hear records what the sessions of a node were told.
func (w *World) hear(n int) {
	for sess := 1; sess <= api.MaxSess; sess++ {
		for _, r := range w.up(n).Replies(sess) {
			w.told = append(w.told, api.Told{Node: n, Sess: sess, Life: w.places[n].lives[sess], Reply: r})
		}
	}
}

// fall takes a node down, if it is up.
func (w *World) fall(n int) {
	if w.Up(n) {
		w.places[n].node = nil
		w.seen = append(w.seen, api.Seen{Kind: api.Fell, Node: n})
	}
}

// start starts a node that is down.
func (w *World) start(n int) api.Errno {
	if w.Up(n) {
		return api.ErrState
	}
	p := &w.places[n]
	p.disk.Power()
	x, e := node.Start(n, w.setup, p.disk, p.clock)
	if e != api.OK {
		return api.ErrDown
	}
	p.node = x
	return api.OK
}

// pass lets time go by.
func (w *World) pass(real int64, clocks []int64) api.Errno {
	if len(clocks) != w.setup.Many {
		return api.ErrArg
	}
	for _, t := range clocks {
		if !drift.May(w.setup.Rho, real, t) {
			return api.ErrArg
		}
	}
	for i, t := range clocks {
		if w.places[i+1].clock+t > lastTime {
			return api.ErrFull
		}
	}
	for i, t := range clocks {
		w.places[i+1].clock += t
	}
	for n := 1; w.isNode(n); n++ {
		if w.Up(n) {
			w.call(n, with((*node.Node).Clock, w.places[n].clock))
		}
	}
	return api.OK
}

// deliver takes a letter out of the network, and gives it to its node if that can be.
func (w *World) deliver(i int) api.Errno {
	l, e := w.net.Take(i)
	if e != api.OK {
		return e
	}
	if !w.Up(l.To) {
		return api.OK
	}
	if x, e := msg.Decode([]byte(l.Bytes)); e == api.OK && x.To == l.To {
		w.call(l.To, with((*node.Node).Take, x))
	}
	return api.OK
}

// deliverAll delivers the first letter again and again.
func (w *World) deliverAll() {
	for range mostLetters {
		if w.deliver(0) != api.OK {
			return
		}
	}
}

// round lets all that may go on do so.
func (w *World) round() {
	w.deliverAll()
	for n := 1; w.isNode(n); n++ {
		if w.Up(n) && w.Leader(n) == n {
			w.call(n, (*node.Node).Beat)
		}
	}
	w.deliverAll()
}
