package mux

import (
	"fmt"
	"math/rand"
	"slices"
	"testing"

	"stopcock/api"
)

func fed(t *testing.T, s *Sess, b string, want api.Errno) {
	t.Helper()
	if e := s.Feed([]byte(b)); e != want {
		t.Fatalf("Feed(%q) is %d, not %d", b, e, want)
	}
}

func next(t *testing.T, s *Sess, want int, text string) {
	t.Helper()
	if action, got := s.Next(); action != want || got != text {
		t.Fatalf("Next is %d, %q, not %d, %q", action, got, want, text)
	}
}

func ok(t *testing.T, what string, e, want api.Errno) {
	t.Helper()
	if e != want {
		t.Fatalf("%s is %d, not %d", what, e, want)
	}
}

// told checks the replies, each as Kind alone, or as the whole.
func told(t *testing.T, s *Sess, want ...any) {
	t.Helper()
	got := s.Replies()
	if len(got) != len(want) {
		t.Fatalf("Replies is %v, not %v", got, want)
	}
	for i, x := range want {
		r, whole := x.(api.Reply)
		if !whole {
			r = api.Reply{Kind: x.(int)}
		}
		if got[i] != r {
			t.Fatalf("Replies is %v, not %v", got, want)
		}
	}
}

func result(text string) api.Reply { return api.Reply{Kind: api.Result, Text: text} }

// in returns a session in a state, with nothing queued and no replies.
func in(t *testing.T, x state) *Sess {
	t.Helper()
	s := New()
	steps := map[state]string{
		free: "", waiting: "Bn", bound: "Bng", dead: "Bngl", passing: "qng", sent: "qngn", giving: "qngna", closed: "h",
	}
	for _, step := range steps[x] {
		switch step {
		case 'B':
			fed(t, s, "B", api.OK)
		case 'q':
			fed(t, s, "Q\x01q", api.OK)
		case 'n':
			s.Next()
		case 'g':
			ok(t, "Got", s.Got(), api.OK)
		case 'l':
			ok(t, "Lost", s.Lost(), api.OK)
		case 'a':
			ok(t, "Answer", s.Answer("a"), api.OK)
		case 'h':
			s.Hang()
		}
	}
	s.Replies()
	if s.state != x {
		t.Fatalf("the state is %d, not %d", s.state, x)
	}
	return s
}

func states() []state { return []state{closed, free, waiting, bound, passing, sent, giving, dead} }

// P19.1
func TestNew(t *testing.T) {
	s := New()
	if !s.Open() || s.state != free {
		t.Error("a new session is not open and free")
	}
	next(t, s, Nothing, "")
	told(t, s)
	s.Hang()
	if s.Open() {
		t.Error("a session is open behind Hang")
	}
}

// The document's examples.
func TestExamples(t *testing.T) {
	s := New()
	fed(t, s, "BQ\x02hiE", api.OK)
	next(t, s, Want, "")
	next(t, s, Nothing, "")
	ok(t, "Got", s.Got(), api.OK)
	next(t, s, Pass, "hi")
	next(t, s, Nothing, "")
	ok(t, "Answer", s.Answer("yo"), api.OK)
	next(t, s, Give, "")
	told(t, s, api.Ready, result("yo"), api.Done)
	told(t, s)
	s = New()
	fed(t, s, "Q\x01x", api.OK)
	next(t, s, Want, "")
	ok(t, "Turn", s.Turn(api.Reply{Kind: api.Busy}), api.OK)
	next(t, s, Nothing, "")
	told(t, s, api.Busy)
}

// P19.2
func TestFeed(t *testing.T) {
	s := in(t, waiting)
	fed(t, s, "BQ", api.OK)
	fed(t, s, "\x03ab", api.OK)
	fed(t, s, "cE", api.OK)
	if len(s.queue) != 3 {
		t.Fatalf("the queue is %v", s.queue)
	}
	fed(t, s, "BBBQ", api.OK)
	fed(t, s, "", api.ErrFull)
	fed(t, s, "\x00", api.ErrFull)
	ok(t, "Got", s.Got(), api.OK)
	next(t, s, Pass, "abc")
	s.Hang()
	fed(t, s, "", api.ErrState)
	s = in(t, waiting)
	for range 3 {
		fed(t, s, "E", api.OK)
	}
	fed(t, s, "EEE", api.OK)
	fed(t, s, "E", api.ErrFull)
	// The bad end comes once.
	s = in(t, waiting)
	fed(t, s, "Ex", api.OK)
	fed(t, s, "yB", api.OK)
	if !slices.Equal(s.queue, []api.Frame{{Kind: api.End}, {}}) {
		t.Errorf("the queue is %v", s.queue)
	}
	s = in(t, waiting)
	fed(t, s, "EEEx", api.OK)
	fed(t, s, "y", api.ErrFull)
}

// P19.3: the table.
func TestTable(t *testing.T) {
	for i, x := range []struct {
		from   state
		frame  string
		action int
		text   string
		to     state
		reply  int
	}{
		{free, "B", Want, "", waiting, 0}, {free, "Q\x01x", Want, "", waiting, 0}, {free, "E", Nothing, "", free, api.Wrong}, {free, "?", Nothing, "", closed, api.Broken},
		{bound, "B", Nothing, "", bound, api.Wrong}, {bound, "Q\x01x", Pass, "x", sent, 0}, {bound, "E", Give, "", free, api.Done}, {bound, "?", Give, "", closed, api.Broken},
		{dead, "B", Nothing, "", free, api.Aborted}, {dead, "Q\x01x", Nothing, "", free, api.Aborted}, {dead, "E", Nothing, "", free, api.Aborted}, {dead, "?", Nothing, "", closed, api.Broken},
		{waiting, "B", Nothing, "", waiting, 0}, {sent, "B", Nothing, "", sent, 0}, {passing, "B", Pass, "q", sent, 0}, {giving, "B", Give, "", free, 0},
	} {
		s := in(t, x.from)
		fed(t, s, x.frame, api.OK)
		next(t, s, x.action, x.text)
		if s.state != x.to || s.Open() != (x.to != closed) {
			t.Errorf("case %d: the state is %d", i, s.state)
		}
		if x.reply == 0 {
			told(t, s)
		} else {
			told(t, s, x.reply)
		}
	}
}

// P19.3: what needs no action is passed over in one go.
func TestGoesOn(t *testing.T) {
	s := New()
	fed(t, s, "EEB", api.OK)
	next(t, s, Want, "")
	told(t, s, api.Wrong, api.Wrong)
	s = in(t, bound)
	fed(t, s, "BBE", api.OK)
	next(t, s, Give, "")
	next(t, s, Nothing, "")
	told(t, s, api.Wrong, api.Wrong, api.Done)
	s = in(t, dead)
	fed(t, s, "EEQ\x01z", api.OK)
	next(t, s, Want, "")
	told(t, s, api.Aborted, api.Wrong)
	ok(t, "Got", s.Got(), api.OK)
	next(t, s, Pass, "z")
	s = New()
	fed(t, s, "E?EE", api.OK)
	next(t, s, Nothing, "")
	next(t, s, Nothing, "")
	told(t, s, api.Wrong, api.Broken)
	fed(t, s, "E", api.ErrState)
}

// P19.4, P19.5: which outcome may come in which state.
func TestStates(t *testing.T) {
	for _, x := range states() {
		for name, call := range map[string]func(*Sess) api.Errno{
			"Got": (*Sess).Got, "Lost": (*Sess).Lost,
			"Answer": func(s *Sess) api.Errno { return s.Answer("a") },
			"Turn":   func(s *Sess) api.Errno { return s.Turn(api.Reply{Kind: api.Busy}) },
		} {
			may := map[string][]state{"Got": {waiting}, "Turn": {waiting}, "Answer": {sent}, "Lost": {bound, passing, sent, giving}}[name]
			s := in(t, x)
			want := api.ErrState
			if slices.Contains(may, x) {
				want = api.OK
			}
			ok(t, fmt.Sprint(name, " in ", x), call(s), want)
			if want != api.OK && (s.state != x || len(s.Replies()) != 0) {
				t.Errorf("%s in %d changes something", name, x)
			}
		}
	}
}

// P19.4
func TestOutcome(t *testing.T) {
	s := in(t, waiting)
	ok(t, "Got", s.Got(), api.OK)
	told(t, s, api.Ready)
	next(t, s, Nothing, "")
	s = New()
	fed(t, s, "Q\x00", api.OK)
	next(t, s, Want, "")
	ok(t, "Got", s.Got(), api.OK)
	told(t, s)
	next(t, s, Pass, "")
	for _, r := range []api.Reply{
		{}, {Kind: api.Busy, Node: 1}, {Kind: api.Busy, Text: "x"}, {Kind: api.Moved}, {Kind: api.Moved, Node: 8}, {Kind: api.Moved, Node: -1},
		{Kind: api.Moved, Node: 1, Text: "x"}, {Kind: api.Ready}, {Kind: api.Aborted}, {Kind: api.Result},
	} {
		for _, x := range []state{waiting, free, closed} {
			s := in(t, x)
			ok(t, "Turn", s.Turn(r), api.ErrArg)
			told(t, s)
		}
	}
	for _, r := range []api.Reply{{Kind: api.Busy}, {Kind: api.Moved, Node: 1}, {Kind: api.Moved, Node: 7}} {
		s := in(t, waiting)
		ok(t, "Turn", s.Turn(r), api.OK)
		told(t, s, r)
		if s.state != free {
			t.Errorf("the state is %d", s.state)
		}
	}
}

// P19.5
func TestQuery(t *testing.T) {
	s := in(t, bound)
	fed(t, s, "Q\x01xQ\x01y", api.OK)
	next(t, s, Pass, "x")
	ok(t, "Answer", s.Answer(""), api.OK)
	next(t, s, Pass, "y")
	ok(t, "Lost", s.Lost(), api.OK)
	told(t, s, result(""), api.Aborted)
	if s.state != free {
		t.Errorf("the state is %d", s.state)
	}
	for x, want := range map[state]state{bound: dead, passing: free, sent: free, giving: free} {
		s := in(t, x)
		ok(t, "Lost", s.Lost(), api.OK)
		if s.state != want {
			t.Errorf("the state is %d", s.state)
		}
		if x == passing || x == sent {
			told(t, s, api.Aborted)
		} else {
			told(t, s)
		}
		next(t, s, Nothing, "")
	}
	s = in(t, giving)
	next(t, s, Give, "")
	next(t, s, Nothing, "")
}

// P19.6
func TestHang(t *testing.T) {
	for _, x := range states() {
		s := in(t, x)
		if x == waiting {
			fed(t, s, "BBBB", api.OK)
		}
		s.replies = []api.Reply{result("kept")}
		s.Hang()
		s.Hang()
		next(t, s, Nothing, "")
		if s.Open() {
			t.Error("a session is open behind Hang")
		}
		told(t, s, result("kept"))
	}
}

// R2, R5
func TestClone(t *testing.T) {
	s := in(t, bound)
	fed(t, s, "BQ\x02a", api.OK)
	s.Next()
	c := s.Clone()
	fed(t, s, "bE", api.OK)
	fed(t, c, "cB", api.OK)
	next(t, s, Pass, "ab")
	next(t, c, Pass, "ac")
	s.Answer("1")
	c.Lost()
	told(t, s, api.Wrong, result("1"))
	told(t, c, api.Wrong, api.Aborted)
	next(t, s, Give, "")
	next(t, c, Want, "")
}

// R5: what is queued and what was told is each one's own, also where there is room behind it.
func TestCloneQueue(t *testing.T) {
	s := in(t, waiting)
	fed(t, s, "EEE", api.OK)
	s.queue = slices.Grow(s.queue, 9)
	s.replies = slices.Grow([]api.Reply{result("1")}, 9)
	c := s.Clone()
	fed(t, s, "E", api.OK)
	fed(t, c, "B", api.OK)
	s.replies = append(s.replies, result("2"))
	c.replies = append(c.replies, result("3"))
	if s.queue[3].Kind != api.End || c.queue[3].Kind != api.Begin {
		t.Errorf("the queues are %v and %v", s.queue, c.queue)
	}
	told(t, s, result("1"), result("2"))
	told(t, c, result("1"), result("3"))
}

// The numbers of the actions.
func TestActions(t *testing.T) {
	if Nothing != 0 || Want != 1 || Pass != 2 || Give != 3 {
		t.Error("the actions have other numbers")
	}
}

// A session that was not made is closed.
func TestNone(t *testing.T) {
	for _, s := range []*Sess{nil, {}} {
		s.Hang()
		next(t, s, Nothing, "")
		if s.Open() || s.Feed(nil) != api.ErrState || s.Got() != api.ErrState || s.Lost() != api.ErrState || s.Answer("") != api.ErrState ||
			s.Turn(api.Reply{Kind: api.Busy}) != api.ErrState || s.Replies() != nil || s.Clone().Open() {
			t.Error("a session that was not made does something")
		}
	}
}

// play runs a session to its end with the bytes in pieces, and returns all replies; outcomes hang on how many came before.
func play(t *testing.T, b []byte, seed int64, piece func() int) []api.Reply {
	t.Helper()
	s := New()
	r := rand.New(rand.NewSource(seed))
	var l []api.Reply
	for steps := 0; steps < 2000; steps++ {
		action, text := s.Next()
		switch {
		case action == Want && r.Intn(4) == 0:
			s.Turn(api.Reply{Kind: api.Busy})
		case action == Want:
			s.Got()
		case action == Pass && r.Intn(4) == 0:
			s.Lost()
		case action == Pass:
			s.Answer("to " + text)
		case action == Nothing && len(b) > 0:
			k := min(piece(), len(b))
			if s.Feed(b[:k]) == api.OK {
				b = b[k:]
			} else if !s.Open() {
				b = nil
			}
		}
		l = append(l, s.Replies()...)
	}
	if len(b) > 0 || s.Open() && s.stream.Left() == 0 && len(s.queue) > 0 {
		t.Fatalf("%d bytes are left, and %v", len(b), s.queue)
	}
	return l
}

// P19.7
func TestPieces(t *testing.T) {
	r := rand.New(rand.NewSource(1))
	for seed := range int64(300) {
		var b []byte
		frames := r.Intn(20)
		for range frames {
			b = append(b, []string{"B", "E", "Q\x00", "Q\x01x", "Q\x03BEQ"}[r.Intn(5)]...)
		}
		whole := play(t, b, seed, func() int { return len(b) })
		pieces := play(t, b, seed, func() int { return 1 + r.Intn(5) })
		if !slices.Equal(whole, pieces) || len(whole) != frames {
			t.Fatalf("%q is answered %v, and in pieces %v", b, whole, pieces)
		}
		b = append(b, '?')
		if broken := play(t, b, seed, func() int { return 1 + r.Intn(5) }); len(broken) != frames+1 || broken[frames].Kind != api.Broken {
			t.Fatalf("%q is answered %v", b, broken)
		}
	}
}
