package world

import (
	"fmt"
	"math/rand"
	"slices"
	"testing"

	"stopcock/api"
	"stopcock/judge"
	"stopcock/stream"
)

// life is one life of a session number.
type life struct {
	node, sess, life int
}

// clients knows what was sent in each life, and how many replies have come.
type clients struct {
	t       *testing.T
	w       *World
	readers map[life]*stream.Reader
	sent    map[life][]api.Frame // a bad end is a frame of no Kind
	asked   map[string]life      // by the text of a Query
	served  map[life][]string    // what the backend answered
	replies map[life][]api.Reply
	read    int // how many of Told have been looked at
	results int
}

func newClients(t *testing.T, w *World) *clients {
	return &clients{
		t: t, w: w, readers: map[life]*stream.Reader{}, sent: map[life][]api.Frame{},
		asked: map[string]life{}, served: map[life][]string{}, replies: map[life][]api.Reply{},
	}
}

// send lets a client send frames, each Query with a text that no other has.
func (c *clients) send(r *rand.Rand, n, sess int) {
	now := life{n, sess, c.w.places[n].lives[sess]}
	if !c.w.Session(n, sess) {
		now.life++
	}
	in := c.readers[now]
	if in == nil {
		in = stream.New()
		c.readers[now] = in
	}
	var l []api.Frame
	for range 1 + r.Intn(4) {
		f := api.Frame{Kind: []byte{api.Begin, api.Query, api.Query, api.End}[r.Intn(4)]}
		if f.Kind == api.Query {
			f.Text = fmt.Sprint(now, len(c.sent[now])+len(l))
			c.asked[f.Text] = now
		}
		l = append(l, f)
	}
	b, _ := stream.Bytes(l)
	if r.Intn(40) == 0 {
		b = append(b, '?')
	}
	if c.w.Do(send(n, sess, string(b))) != api.OK {
		return
	}
	c.sent[now] = append(c.sent[now], in.Feed(b)...)
	if in.Broken() {
		c.sent[now] = append(c.sent[now], api.Frame{})
	}
}

// serve lets the backend answer each of a node's queries with its own text.
func (c *clients) serve(n int) {
	for _, token := range c.w.Queries(n) {
		query := c.w.Query(n, token)
		if c.w.Do(serve(n, token, "to "+query)) == api.OK {
			c.served[c.asked[query]] = append(c.served[c.asked[query]], "to "+query)
		}
	}
}

// look checks that replies answer the frames one by one.
func (c *clients) look() {
	c.t.Helper()
	may := map[byte][]int{
		api.Begin: {api.Ready, api.Busy, api.Moved, api.Wrong, api.Aborted}, api.Query: {api.Result, api.Busy, api.Moved, api.Aborted},
		api.End: {api.Done, api.Wrong, api.Aborted}, 0: {api.Broken},
	}
	all := c.w.Told()
	for _, x := range all[c.read:] {
		key := life{x.Node, x.Sess, x.Life}
		i := len(c.replies[key])
		c.replies[key] = append(c.replies[key], x.Reply)
		if i >= len(c.sent[key]) {
			c.t.Fatalf("%v is told %v, and had sent only %d frames", key, x.Reply, len(c.sent[key]))
		}
		f := c.sent[key][i]
		if !slices.Contains(may[f.Kind], x.Reply.Kind) || x.Reply.Kind == api.Result && x.Reply.Text != "to "+f.Text {
			c.t.Fatalf("%v is told %v, which answers %v", key, x.Reply, f)
		}
		if x.Reply.Kind == api.Result {
			c.results++
		}
	}
	c.read = len(all)
}

// judge lets each session be judged; a bad end, which comes last, is no frame to the judge.
func (c *clients) judge() {
	for key, told := range c.replies {
		if told[len(told)-1].Kind == api.Broken {
			told = told[:len(told)-1]
		}
		if at, e := judge.Fits(c.sent[key], c.served[key], told); e != api.OK {
			c.t.Fatalf("%v sent %v, served was %q, and it was told %v: %d, %d", key, c.sent[key], c.served[key], told, at, e)
		}
	}
}

// P0.4
func TestReplies(t *testing.T) {
	results, replies := 0, 0
	for seed := range int64(30) {
		r := rand.New(rand.NewSource(seed))
		w := mustNew(t, setup(1+r.Intn(3), 1+r.Intn(5), 100, int64(30+r.Intn(60))))
		c := newClients(t, w)
		all(t, w, at(api.Stand, 1), round())
		for range 500 {
			n := 1 + r.Intn(w.setup.Many)
			switch k := r.Intn(20); {
			case k < 6:
				c.send(r, n, 1+r.Intn(6))
			case k < 11:
				c.serve(n)
			case k < 12:
				w.Do(api.Act{Kind: api.Hang, A: n, B: 1 + r.Intn(6)})
			case k < 13 && r.Intn(5) == 0:
				w.Do(at(api.Crash, n))
				w.Do(at(api.Start, n))
				w.Do(at(api.Stand, n))
			case k < 15:
				w.Do(drifted(r, w, int64(r.Intn(20))))
			case k < 16:
				w.Do(at(api.Squash, n))
			default:
				w.Do(round())
			}
			c.look()
		}
		c.judge()
		results += c.results
		replies += c.read
	}
	if results < 300 || replies < 1500 {
		t.Errorf("there were only %d replies, and %d of them results", replies, results)
	}
}

// P0.5: the tokens of a node that crashed are reclaimed when a lease has passed on the leader's clock.
func TestReclaim(t *testing.T) {
	w := led(t, setup(3, 3, 100, 100), 1)
	for sess := 1; sess <= 3; sess++ {
		all(t, w, send(2, sess, "B"), round(), round())
	}
	if len(w.Open()) != 3 {
		t.Fatalf("open are %v", w.Open())
	}
	all(t, w, at(api.Crash, 2), send(3, 1, "B"), round(), round())
	told(t, w, 3, 1, 1, api.Moved)
	for w.Clock(1) < 95 {
		all(t, w, pass(w, 5), round(), round())
	}
	if len(w.Ledger(1).Held) != 3 {
		t.Errorf("held are %v", w.Ledger(1).Held)
	}
	all(t, w, pass(w, 5), round(), round())
	if len(w.Ledger(1).Held) != 0 || len(w.Ledger(3).Held) != 0 {
		t.Errorf("held are %v", w.Ledger(1).Held)
	}
	all(t, w, send(3, 1, "B"), round(), round())
	told(t, w, 3, 1, 1, api.Moved, api.Ready)
}

// P0.5: a token that is reclaimed although its holder was started again.
func TestReclaimOldBoot(t *testing.T) {
	w := led(t, setup(3, 1, 0, 100), 1)
	all(t, w, send(2, 1, "B"), round(), round(), at(api.Crash, 2), at(api.Start, 2), pass(w, 50), round(), send(3, 1, "B"), round(), round())
	if l := w.Ledger(1).Held; len(l) != 1 || l[0].Boot != 1 {
		t.Fatalf("held are %v", l)
	}
	told(t, w, 3, 1, 1, api.Moved)
	all(t, w, pass(w, 50), round(), send(3, 1, "B"), round(), round())
	told(t, w, 3, 1, 1, api.Moved, api.Ready)
}

// P0.5: while tokens are free, every session gets a connection or is told where to go.
func TestProgress(t *testing.T) {
	for seed := range int64(20) {
		r := rand.New(rand.NewSource(seed))
		w := led(t, setup(1+r.Intn(4), 1+r.Intn(6), []int{0, 100}[r.Intn(2)], 100), 1)
		var open [][2]int
		for range 40 {
			n, sess := 1+r.Intn(w.setup.Many), 1+r.Intn(6)
			for len(open) >= w.setup.Limit || w.Session(n, sess) {
				all(t, w, api.Act{Kind: api.Hang, A: open[0][0], B: open[0][1]})
				open = open[1:]
			}
			open = append(open, [2]int{n, sess})
			all(t, w, send(n, sess, "B"))
			now := w.places[n].lives[sess]
			for range 60 {
				all(t, w, drifted(r, w, 5), round(), round())
				for k := 1; k <= w.setup.Many; k++ {
					w.Do(at(api.Squash, k))
				}
			}
			got := kinds(w, n, sess, now)
			if len(got) == 0 || got[0] != api.Ready && got[0] != api.Moved {
				t.Fatalf("session %d of node %d is told %v; held are %v", sess, n, got, w.Ledger(1).Held)
			}
		}
	}
}

// P0.6: whoever receives nothing any more has no connection when a lease has passed, also if it leads.
func TestIsolation(t *testing.T) {
	for isolated := 1; isolated <= 3; isolated++ {
		for _, rho := range []int{0, 100, 500} {
			w := led(t, setup(3, 9, rho, 100), 1)
			for n := 1; n <= 3; n++ {
				all(t, w, send(n, 1, "B"), send(n, 2, "BQ\x01x"), round(), round(), round())
			}
			if len(w.Open()) != 6 {
				t.Fatalf("open are %v", w.Open())
			}
			r := rand.New(rand.NewSource(1))
			for begun := w.Clock(isolated); w.Clock(isolated) < begun+100; {
				all(t, w, drifted(r, w, 5))
				for range 30 {
					if l := w.Letters(); len(l) > 0 && l[0].To == isolated {
						all(t, w, api.Act{Kind: api.Drop})
					} else if len(l) > 0 {
						all(t, w, api.Act{Kind: api.Deliver})
					}
				}
				w.Do(at(api.Beat, 1))
			}
			for _, c := range w.Open() {
				if c.Node == isolated {
					t.Errorf("node %d, which receives nothing, has the connection %v", isolated, c)
				}
			}
		}
	}
}
