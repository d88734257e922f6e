package mux

import "stopcock/api"

// row is a row of the table: what a session does with each frame, in one of the states in which it takes frames.
type row interface {
	begin(s *Sess) (int, string)
	query(s *Sess, text string) (int, string)
	end(s *Sess) (int, string)
	badEnd(s *Sess) (int, string)
}

// rowOf returns the row of a state, or nil if it takes no frames.
func rowOf(x state) row {
	switch x {
	case free:
		return freeRow{}
	case bound:
		return boundRow{}
	case dead:
		return deadRow{}
	}
	return nil
}

// freeRow is that of a session without a connection.
type freeRow struct{}

func (freeRow) begin(s *Sess) (int, string) {
	s.state = waiting
	s.within = true
	return Want, ""
}

func (freeRow) query(s *Sess, text string) (int, string) {
	s.state = waiting
	s.within = false
	s.text = text
	return Want, ""
}

func (freeRow) end(s *Sess) (int, string) {
	s.reply(api.Wrong)
	return Nothing, ""
}

func (freeRow) badEnd(s *Sess) (int, string) {
	s.reply(api.Broken)
	s.Hang()
	return Nothing, ""
}

// boundRow is that of a session in a transaction.
type boundRow struct{}

func (boundRow) begin(s *Sess) (int, string) {
	s.reply(api.Wrong)
	return Nothing, ""
}

func (boundRow) query(s *Sess, text string) (int, string) {
	s.state = sent
	return Pass, text
}

func (boundRow) end(s *Sess) (int, string) {
	s.reply(api.Done)
	s.state = free
	return Give, ""
}

func (boundRow) badEnd(s *Sess) (int, string) {
	s.reply(api.Broken)
	s.Hang()
	return Give, ""
}

// deadRow is that of a session whose connection was lost during a transaction; at its end it is as one without.
type deadRow struct{ freeRow }

func (deadRow) abort(s *Sess) (int, string) {
	s.reply(api.Aborted)
	s.state = free
	return Nothing, ""
}

func (r deadRow) begin(s *Sess) (int, string) { return r.abort(s) }

func (r deadRow) query(s *Sess, text string) (int, string) { return r.abort(s) }

func (r deadRow) end(s *Sess) (int, string) { return r.abort(s) }
