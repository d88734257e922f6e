package judge

import "stopcock/api"

// session is how far a session has come.
type session struct {
	within bool // it is in a transaction
	served []string
}

// frameFits tells whether a frame is valid.
func frameFits(f api.Frame) bool {
	switch f.Kind {
	case api.Begin, api.End:
		return f.Text == ""
	case api.Query:
		return len(f.Text) <= api.MaxText
	}
	return false
}

// replyFits tells whether a reply has what its Kind has, and nothing else.
func replyFits(r api.Reply) bool {
	if r.Kind != api.Result && r.Text != "" {
		return false
	}
	if r.Kind == api.Moved {
		return isNode(r.Node)
	}
	return r.Node == 0
}

// outside tells whether a reply may answer a frame outside a transaction, and whether the session is in one behind it.
func outside(frame byte, reply int) (ok, within bool) {
	switch frame {
	case api.Begin:
		ok = reply == api.Ready || reply == api.Busy || reply == api.Moved
	case api.Query:
		ok = reply == api.Result || reply == api.Busy || reply == api.Moved || reply == api.Aborted
	case api.End:
		ok = reply == api.Wrong
	}
	return ok, reply == api.Ready
}

// inside tells the same of a frame in a transaction.
func inside(frame byte, reply int) (ok, within bool) {
	switch frame {
	case api.Begin:
		ok = reply == api.Wrong || reply == api.Aborted
	case api.Query:
		ok = reply == api.Result || reply == api.Aborted
	case api.End:
		ok = reply == api.Done || reply == api.Aborted
	}
	return ok, reply != api.Aborted && reply != api.Done
}

// step goes on with a reply to a frame, if it may be.
func (s *session) step(f api.Frame, r api.Reply) api.Errno {
	if !frameFits(f) {
		return api.ErrFrame
	}
	row := outside
	if s.within {
		row = inside
	}
	ok, within := row(f.Kind, r.Kind)
	if !ok || !replyFits(r) {
		return api.ErrArg
	}
	if r.Kind == api.Result {
		if len(s.served) == 0 || s.served[0] != r.Text {
			return api.ErrTrace
		}
		s.served = s.served[1:]
	}
	s.within = within
	return api.OK
}

// Fits returns the index of the first reply that can't be what a session was told, and why; or -1.
func Fits(sent []api.Frame, served []string, told []api.Reply) (int, api.Errno) {
	s := session{served: served}
	for i, r := range told {
		if i >= len(sent) {
			return i, api.ErrMany
		}
		if e := s.step(sent[i], r); e != api.OK {
			return i, e
		}
	}
	return -1, api.OK
}
