package script

import (
	"slices"
	"strings"

	"stopcock/api"
	"stopcock/judge"
	"stopcock/world"
)

const mostRounds = 50

// read returns what a line asks for, or nil if it is no line.
func read(line string) order {
	w := &words{rest: strings.Split(line, " ")}
	name := w.next()
	o := readSetup(name, w)
	if o == nil {
		o = readAct(name, w)
	}
	if o == nil {
		o = readQuery(name, w)
	}
	if w.bad || w.more() {
		return nil
	}
	return o
}

// readSetup reads the line that makes a world.
func readSetup(name string, w *words) order {
	if name != "world" {
		return nil
	}
	var s api.Setup
	s.Many = w.number()
	s.Nodes = w.list()
	s.Limit = w.number()
	s.Rho = w.number()
	s.Lease = w.long()
	return func(d *Desk) string {
		made, e := world.New(s)
		if e == api.OK {
			d.setup = s
			d.world = made
		}
		return outcome(e)
	}
}

// outcome is the result of a line that has no other one.
func outcome(e api.Errno) string {
	if e != api.OK {
		return "error " + digits(int(e))
	}
	return "ok"
}

// times asks for an act, once or several times.
func times(many int, a api.Act) order {
	return func(d *Desk) string {
		if d.world == nil {
			return outcome(api.ErrState)
		}
		e := api.OK
		for range many {
			e = d.world.Do(a)
		}
		return outcome(e)
	}
}

// kindOf returns the Kind of the act that the first word of a line names, or 0.
func kindOf(name string) int {
	names := []string{
		api.Pass: "pass", api.Deliver: "deliver", api.Drop: "drop", api.Double: "double", api.Stand: "stand", api.Beat: "beat", api.Crash: "crash", api.Start: "start",
		api.Arm: "arm", api.Change: "change", api.Squash: "squash", api.Send: "send", api.Hang: "hang", api.Serve: "serve", api.Round: "round",
	}
	return max(slices.Index(names, name), 0)
}

// readAct reads the rest of a line that does something.
func readAct(name string, w *words) order {
	a := api.Act{Kind: kindOf(name)}
	many := 1
	switch a.Kind {
	case 0:
		return nil
	case api.Round:
		if w.more() {
			many = w.number()
			w.bad = w.bad || many > mostRounds
		}
	case api.Pass:
		a.Real = w.long()
		a.Clocks = append(a.Clocks, w.long())
		for w.more() {
			a.Clocks = append(a.Clocks, w.long())
		}
	case api.Deliver, api.Drop, api.Double:
		a.B = w.number()
	default:
		a.A = w.number()
		readOf(&a, w)
	}
	return times(many, a)
}

// readOf reads what stands behind the node of an act.
func readOf(a *api.Act, w *words) {
	switch a.Kind {
	case api.Change:
		a.Nodes = w.list()
	case api.Crash:
		if w.more() {
			a.Keep = w.list()
		}
	case api.Arm, api.Hang:
		a.B = w.number()
	case api.Serve:
		a.B = w.number()
		a.Bytes = w.text("=")
	case api.Send:
		a.B = w.number()
		a.Bytes = w.item()
		for w.more() {
			a.Bytes += w.item()
		}
	}
}

// shows asks for something that changes nothing.
func shows(show func(d *Desk) string) order {
	return func(d *Desk) string {
		if d.world == nil {
			return outcome(api.ErrState)
		}
		return "ok " + show(d)
	}
}

// readQuery reads the rest of a line that changes nothing.
func readQuery(name string, w *words) order {
	switch name {
	case "open":
		return shows(func(d *Desk) string {
			return table(d.world.Open(), func(c api.Conn) string { return joined(c.Node, c.Token) })
		})
	case "told":
		return shows(func(d *Desk) string {
			return table(d.world.Told(), func(x api.Told) string { return joined(x.Node, x.Sess, x.Life) + " " + reply(x.Reply) })
		})
	case "leaders":
		return shows((*Desk).leaders)
	case "clocks":
		return shows((*Desk).clocks)
	case "letters":
		return shows(func(d *Desk) string { return digits(len(d.world.Letters())) })
	case "held":
		n := w.number()
		return shows(func(d *Desk) string { return table(d.world.Ledger(n).Held, held) })
	case "queries":
		n := w.number()
		return shows(func(d *Desk) string { return table(d.world.Queries(n), digits) })
	case "judge":
		return shows((*Desk).judge)
	}
	return nil
}

// reply writes a REPLY.
func reply(r api.Reply) string {
	switch r.Kind {
	case api.Ready:
		return "ready"
	case api.Result:
		return "result =" + r.Text
	case api.Done:
		return "done"
	case api.Busy:
		return "busy"
	case api.Moved:
		return "moved " + digits(r.Node)
	case api.Aborted:
		return "aborted"
	case api.Wrong:
		return "wrong"
	}
	return "broken"
}

// held writes a row of Held.
func held(h api.Held) string {
	return joined(h.Token, h.Node) + " " + wide(h.Boot) + " " + wide(h.Serial) + " " + wide(h.Stamp)
}

// leaders writes for each node its leader.
func (d *Desk) leaders() string {
	var l []string
	for n := 1; n <= d.setup.Many; n++ {
		x := "-"
		if d.world.Up(n) {
			x = digits(d.world.Leader(n))
		}
		l = append(l, x)
	}
	return strings.Join(l, " ")
}

// clocks writes what the clocks show.
func (d *Desk) clocks() string {
	var l []int
	for n := 1; n <= d.setup.Many; n++ {
		l = append(l, int(d.world.Clock(n)))
	}
	return joined(l...)
}

// judge writes what the judge says of all that was seen.
func (d *Desk) judge() string {
	at, e := judge.Judge(d.setup.Limit, d.world.Seen())
	if e == api.OK {
		return "fine"
	}
	return joined(int(e), at)
}
