package node

import (
	"math"
	"reflect"
	"slices"
	"strings"
	"testing"

	"stopcock/api"
	"stopcock/disk"
	"stopcock/keep"
	"stopcock/pool"
	"stopcock/shot"
)

// setup is one of a cluster in which all vote; lease and Short are both 100.
func setup(many, limit int) api.Setup {
	s := api.Setup{Many: many, Limit: limit, Lease: 100}
	for n := 1; n <= many; n++ {
		s.Nodes = append(s.Nodes, n)
	}
	return s
}

// cluster is nodes whose messages wait in order.
type cluster struct {
	t     *testing.T
	s     api.Setup
	disks []*disk.Disk
	nodes []*Node
	mail  []api.Msg
}

func newCluster(t *testing.T, s api.Setup) *cluster {
	t.Helper()
	c := &cluster{t: t, s: s, disks: make([]*disk.Disk, s.Many+1), nodes: make([]*Node, s.Many+1)}
	for n := 1; n <= s.Many; n++ {
		c.disks[n] = disk.New()
		first, _ := shot.New(s.Limit, s.Nodes)
		keep.Make(c.disks[n], first)
		c.start(n, 0)
	}
	return c
}

func (c *cluster) start(n int, now int64) *Node {
	c.t.Helper()
	x, e := Start(n, c.s, c.disks[n], now)
	if e != api.OK {
		c.t.Fatalf("Start of node %d is %d", n, e)
	}
	c.nodes[n] = x
	return x
}

// did takes what a call returned that must succeed.
func (c *cluster) did(out []api.Msg, e api.Errno) {
	c.t.Helper()
	if e != api.OK {
		c.t.Fatalf("a call is %d", e)
	}
	c.mail = append(c.mail, out...)
}

// round delivers all messages, and those that come of it.
func (c *cluster) round() {
	c.t.Helper()
	for len(c.mail) > 0 {
		x := c.mail[0]
		c.mail = c.mail[1:]
		if n := c.nodes[x.To]; n != nil && !n.down() {
			c.did(n.Take(x))
		}
	}
}

// beat lets the leader beat, and delivers what comes of it.
func (c *cluster) beat(n int) {
	c.t.Helper()
	c.round()
	c.did(c.nodes[n].Beat())
	c.round()
}

// clock tells all nodes the time.
func (c *cluster) clock(now int64) {
	c.t.Helper()
	for _, n := range c.nodes {
		if n != nil && !n.down() {
			c.did(n.Clock(now))
		}
	}
	c.round()
}

// lead makes a node lead, with its Noop known to all.
func (c *cluster) lead(n int) {
	c.t.Helper()
	c.did(c.nodes[n].Stand())
	c.beat(n)
	if c.nodes[n].Leader() != n {
		c.t.Fatalf("node %d does not lead", n)
	}
}

// client sends bytes, and lets the cluster settle with node 1 in the lead.
func (c *cluster) client(n, sess int, b string) {
	c.t.Helper()
	c.did(c.nodes[n].Client(sess, b))
	c.beat(1)
}

func told(t *testing.T, n *Node, sess int, want ...api.Reply) {
	t.Helper()
	if got := n.Replies(sess); !slices.Equal(got, want) {
		t.Fatalf("session %d is told %v, not %v", sess, got, want)
	}
}

func conns(t *testing.T, n *Node, want ...pool.Conn) {
	t.Helper()
	if got := n.Conns(); !slices.Equal(got, want) {
		t.Fatalf("the connections are %v, not %v", got, want)
	}
}

func reply(kind int) api.Reply { return api.Reply{Kind: kind} }

func result(text string) api.Reply { return api.Reply{Kind: api.Result, Text: text} }

func moved(to int) api.Reply { return api.Reply{Kind: api.Moved, Node: to} }

// one is a single node that leads.
func one(t *testing.T, limit int) (*cluster, *Node) {
	t.Helper()
	c := newCluster(t, setup(1, limit))
	c.lead(1)
	return c, c.nodes[1]
}

// P20.1
func TestCheck(t *testing.T) {
	for _, s := range []api.Setup{setup(1, 1), setup(7, 65535), {Many: 7, Nodes: []int{3, 7}, Limit: 1, Rho: 500, Lease: 1 << 30}} {
		if e := Check(s); e != api.OK {
			t.Errorf("Check(%v) is %d", s, e)
		}
	}
	for i, spoil := range []func(*api.Setup){
		func(s *api.Setup) { s.Many = 0 }, func(s *api.Setup) { s.Many = 8 }, func(s *api.Setup) { s.Many = 2 }, func(s *api.Setup) { s.Nodes = nil }, func(s *api.Setup) { s.Nodes = []int{2, 1} },
		func(s *api.Setup) { s.Nodes = []int{4} }, func(s *api.Setup) { s.Limit = 0 }, func(s *api.Setup) { s.Limit = 65536 }, func(s *api.Setup) { s.Rho = -1 },
		func(s *api.Setup) { s.Rho = 501 }, func(s *api.Setup) { s.Lease = 0 }, func(s *api.Setup) { s.Lease = 1<<30 + 1 }, func(s *api.Setup) { s.Lease = math.MinInt64 },
	} {
		s := setup(3, 5)
		spoil(&s)
		if n, e := Start(1, s, disk.New(), 0); Check(s) != api.ErrArg || n != nil || e != api.ErrArg {
			t.Errorf("case %d: Check(%v) is %d, and Start %d", i, s, Check(s), e)
		}
	}
}

// P20.1
func TestStart(t *testing.T) {
	made := func(h api.Shot) *disk.Disk {
		d := disk.New()
		keep.Make(d, h)
		return d
	}
	far, _ := shot.New(2, []int{1})
	far.Index, far.Term = 1<<61+1, 1
	near := far
	near.Index = 1 << 61
	off := made(near)
	off.Crash(nil)
	for i, x := range []struct {
		self int
		d    *disk.Disk
		want api.Errno
	}{{0, made(near), api.ErrArg}, {4, made(near), api.ErrArg}, {1, nil, api.ErrArg}, {1, off, api.ErrDown}, {1, disk.New(), api.ErrDevice}, {1, made(far), api.ErrRec}} {
		if n, e := Start(x.self, setup(3, 2), x.d, 0); n != nil || e != x.want {
			t.Errorf("case %d: Start is %v, %d", i, n, e)
		}
	}
	n, e := Start(3, setup(3, 2), made(near), -5)
	if e != api.OK || n.time != 0 || n.Commit() != 1<<61 || n.Leader() != 0 || n.Hard().Boot != 1 || !reflect.DeepEqual(n.Ledger(), near.Ledger) {
		t.Errorf("Start is %d", e)
	}
	if len(n.Conns()) != 0 || len(n.Queries()) != 0 || n.Session(1) || n.Query(1) != "" {
		t.Error("a node that starts has something")
	}
}

// The document's example.
func TestExample(t *testing.T) {
	c, n := one(t, 2)
	c.client(1, 1, "B")
	told(t, n, 1, reply(api.Ready))
	c.client(1, 2, "Q\x01x")
	if !slices.Equal(n.Queries(), []int{2}) || n.Query(2) != "x" || n.Query(1) != "" {
		t.Fatalf("the queries are %v", n.Queries())
	}
	c.did(n.Serve(2, "y"))
	told(t, n, 2, result("y"))
	conns(t, n, pool.Conn{Token: 1, Sess: 1}, pool.Conn{Token: 2})
	if len(n.Queries()) != 0 {
		t.Error("a query remains behind its answer")
	}
}

// P20.4, P20.5: what is refused changes nothing.
func TestClientErrors(t *testing.T) {
	c, n := one(t, 2)
	for _, sess := range []int{0, 7, -1, math.MinInt, math.MaxInt} {
		if out, e := n.Client(sess, "B"); out != nil || e != api.ErrArg {
			t.Errorf("Client(%d) is %d", sess, e)
		}
		if out, e := n.Hang(sess); out != nil || e != api.ErrNone || n.Session(sess) || n.Replies(sess) != nil {
			t.Errorf("Hang(%d) is %d", sess, e)
		}
	}
	if _, e := n.Hang(3); e != api.ErrNone {
		t.Errorf("Hang of a session that never was is %d", e)
	}
	c.client(1, 1, "BQ\x01xBBBB")
	if _, e := n.Client(1, "B"); e != api.ErrFull {
		t.Errorf("Client of one that is ahead is %d", e)
	}
	for _, token := range []int{0, 2, -1} {
		if _, e := n.Serve(token, "y"); e != api.ErrNone {
			t.Errorf("Serve(%d) is %d", token, e)
		}
	}
	c.did(n.Serve(1, "y"))
	if _, e := n.Serve(1, "y"); e != api.ErrNone {
		t.Errorf("Serve again is %d", e)
	}
	told(t, n, 1, reply(api.Ready), result("y"), reply(api.Wrong), reply(api.Wrong), reply(api.Wrong), reply(api.Wrong))
}

// P20.4: a session number begins anew, and the replies of the earlier session go.
func TestSessions(t *testing.T) {
	c, n := one(t, 2)
	c.client(1, 6, "E?")
	if n.Session(6) {
		t.Error("a broken session is open")
	}
	told(t, n, 6, reply(api.Wrong), reply(api.Broken))
	c.client(1, 6, "E?")
	c.client(1, 6, "B")
	told(t, n, 6, reply(api.Ready))
	if !n.Session(6) {
		t.Error("a session is not open")
	}
	c.did(n.Hang(6))
	if _, e := n.Hang(6); e != api.ErrNone {
		t.Errorf("Hang again is %d", e)
	}
	conns(t, n, pool.Conn{Token: 1})
}

// P20.4: who hangs up leaves the connection to the next one, and its query is discarded.
func TestHang(t *testing.T) {
	c, n := one(t, 1)
	c.client(1, 1, "BQ\x01x")
	c.client(1, 2, "B")
	c.client(1, 3, "Q\x01z")
	conns(t, n, pool.Conn{Token: 1, Sess: 1})
	c.did(n.Hang(1))
	conns(t, n, pool.Conn{Token: 1, Sess: 2})
	told(t, n, 2, reply(api.Ready))
	if len(n.Queries()) != 0 {
		t.Error("the query of a session that hung up remains")
	}
	c.did(n.Hang(3))
	c.client(1, 2, "E")
	told(t, n, 2, reply(api.Done))
	conns(t, n, pool.Conn{Token: 1})
	told(t, n, 1, reply(api.Ready))
}

// Serving: the lowest number goes first, and no more than four wait.
func TestServing(t *testing.T) {
	c := newCluster(t, setup(2, 1))
	n := c.nodes[2]
	for sess := 6; sess >= 1; sess-- {
		c.did(n.Client(sess, "B"))
	}
	told(t, n, 1, reply(api.Busy))
	told(t, n, 2, reply(api.Busy))
	if len(c.mail) != 0 {
		t.Errorf("a node that knows no leader sends %v", c.mail)
	}
	c.lead(1)
	c.clock(1)
	c.beat(1)
	conns(t, n, pool.Conn{Token: 1, Sess: 6})
	told(t, n, 6, reply(api.Ready))
	// One that gives its connection back, and wants one again, stands at the end.
	c.did(n.Client(6, "EB"))
	told(t, n, 5, reply(api.Ready))
	if got := n.pool.Waits(); !slices.Equal(got, []int{4, 3, 6}) {
		t.Errorf("%v wait", got)
	}
}

// Requesting: half of the time must have passed; a busy connection is renewed, an idle one released.
func TestRenew(t *testing.T) {
	c, n := one(t, 3)
	c.client(1, 1, "B")
	c.client(1, 2, "B")
	c.client(1, 2, "E")
	conns(t, n, pool.Conn{Token: 1, Sess: 1}, pool.Conn{Token: 2})
	held := n.Ledger().Held
	c.clock(49)
	if !reflect.DeepEqual(n.Ledger().Held, held) {
		t.Error("a token is renewed before half of its time has passed")
	}
	c.clock(50)
	if got := n.Ledger().Held[0]; got.Stamp <= held[0].Stamp || got.Serial != held[0].Serial {
		t.Errorf("the row is %v", got)
	}
	conns(t, n, pool.Conn{Token: 1, Sess: 1}, pool.Conn{Token: 2})
	c.clock(51)
	conns(t, n, pool.Conn{Token: 1, Sess: 1})
	if l := n.Ledger().Held; len(l) != 1 || l[0].Token != 1 {
		t.Errorf("the rows are %v", l)
	}
	trusts := n.wallet.All()
	if len(trusts) != 1 || trusts[0].Until != 150 {
		t.Errorf("the trusts are %v", trusts)
	}
}

// P20.2, P20.6: what is not trusted any more is closed, whatever runs on it.
func TestExpiry(t *testing.T) {
	c := newCluster(t, setup(2, 9))
	c.lead(1)
	n := c.nodes[2]
	c.client(2, 1, "B")
	c.client(2, 2, "BQ\x01x")
	c.client(2, 3, "Q\x01y")
	conns(t, n, pool.Conn{Token: 1, Sess: 1}, pool.Conn{Token: 2, Sess: 2}, pool.Conn{Token: 3, Sess: 3})
	told(t, n, 2, reply(api.Ready))
	c.did(n.Clock(99))
	c.mail = nil
	if len(n.Conns()) != 3 {
		t.Error("a connection is closed too early")
	}
	c.did(n.Clock(100))
	conns(t, n)
	if len(n.Queries()) != 0 {
		t.Error("a query remains without a connection")
	}
	told(t, n, 1, reply(api.Ready))
	told(t, n, 2, reply(api.Aborted))
	told(t, n, 3, reply(api.Aborted))
	c.did(n.Client(1, "E"))
	told(t, n, 1, reply(api.Aborted))
}

// The whole way of a token from one node to another one, with the outcomes that others see.
func TestMoved(t *testing.T) {
	c := newCluster(t, setup(3, 1))
	c.lead(1)
	c.client(2, 1, "B")
	told(t, c.nodes[2], 1, reply(api.Ready))
	c.client(3, 1, "B")
	c.client(3, 2, "Q\x00")
	told(t, c.nodes[3], 1, moved(2))
	if len(c.nodes[3].Replies(2)) != 0 || !c.nodes[3].refused {
		t.Error("who was refused asks again")
	}
	c.clock(1)
	c.beat(1)
	told(t, c.nodes[3], 2, moved(2))
	// Node 2 falls silent: behind a lease of the leader's its token is free.
	c.nodes[2] = nil
	c.clock(99)
	if len(c.nodes[1].Ledger().Held) != 1 {
		t.Error("a token is reclaimed too early")
	}
	c.clock(100)
	c.beat(1)
	if len(c.nodes[1].Ledger().Held) != 0 {
		t.Error("a token is not reclaimed")
	}
	c.client(3, 1, "B")
	told(t, c.nodes[3], 1, reply(api.Ready))
	conns(t, c.nodes[3], pool.Conn{Token: 1, Sess: 1})
}

// A refused node with a connection keeps its sessions waiting; without one it moves them to the richest node.
func TestRefused(t *testing.T) {
	c := newCluster(t, setup(4, 5))
	c.lead(1)
	for _, x := range []struct{ node, sess int }{{4, 1}, {4, 2}, {3, 1}, {3, 2}, {2, 1}} {
		c.client(x.node, x.sess, "B")
	}
	c.client(2, 2, "B")
	if !c.nodes[2].refused || len(c.nodes[2].Replies(2)) != 0 || !slices.Equal(c.nodes[2].pool.Waits(), []int{2}) {
		t.Error("a refused node with a connection moves its sessions")
	}
	c.client(1, 5, "B")
	told(t, c.nodes[1], 5, moved(3))
	c.did(c.nodes[1].Clock(1))
	if c.nodes[1].refused {
		t.Error("Clock does not end that a node is refused")
	}
}

// P20.2: a request that got lost is submitted again, and counts once.
func TestSubmitAgain(t *testing.T) {
	c := newCluster(t, setup(2, 3))
	c.lead(1)
	n := c.nodes[2]
	out, _ := n.Client(1, "B")
	if len(out) != 1 || out[0].Kind != api.Put || out[0].To != 1 || out[0].Entries[0].Cmd.Kind != api.Grant || out[0].Entries[0].Cmd.Seq != 1 {
		t.Fatalf("the request is %v", out)
	}
	again, _ := n.Client(2, "B")
	if len(again) != 0 {
		t.Errorf("a second request is made: %v", again)
	}
	again, _ = n.Clock(1)
	if !reflect.DeepEqual(again, out) {
		t.Errorf("Clock submits %v", again)
	}
	c.mail = append(out, again...)
	c.beat(1)
	c.beat(1)
	conns(t, n, pool.Conn{Token: 1, Sess: 1}, pool.Conn{Token: 2, Sess: 2})
	if l := n.Ledger(); len(l.Held) != 2 || l.Next != 3 || n.requests != 2 {
		t.Errorf("the ledger is %v", l)
	}
}

// A leader does not propose its own request twice.
func TestLogged(t *testing.T) {
	c := newCluster(t, setup(2, 3))
	c.lead(1)
	n := c.nodes[1]
	c.did(n.Client(1, "B"))
	before := len(n.Hard().Log)
	c.did(n.Clock(1))
	if len(n.Hard().Log) != before {
		t.Errorf("the log is %v", n.Hard().Log)
	}
	c.mail = nil
	c.beat(1)
	told(t, n, 1, reply(api.Ready))
}

// Applying: the outcome of a request may be found in a snapshot.
func TestSnapshot(t *testing.T) {
	c := newCluster(t, setup(3, 3))
	c.lead(1)
	c.client(1, 1, "B") // the first request of another node
	n := c.nodes[3]
	out, _ := n.Client(1, "B")
	c.nodes[3] = nil
	c.mail = out
	put := c.mail[0]
	c.mail = nil
	c.did(c.nodes[1].Take(put))
	c.round()
	c.did(c.nodes[1].Squash())
	c.nodes[3] = n
	c.beat(1)
	if n.Hard().Shot.Index == 0 || n.Commit() != c.nodes[1].Commit() {
		t.Fatal("node 3 got no snapshot")
	}
	conns(t, n, pool.Conn{Token: 2, Sess: 1})
	told(t, n, 1, reply(api.Ready))
	if !reflect.DeepEqual(n.Ledger(), c.nodes[1].Ledger()) {
		t.Errorf("the ledgers are %v and %v", n.Ledger(), c.nodes[1].Ledger())
	}
	// A snapshot that knows only an earlier request leaves the pending one pending.
	n.Client(2, "B")
	c.nodes[3] = nil
	c.client(1, 2, "B")
	c.did(c.nodes[1].Squash())
	c.nodes[3] = n
	c.beat(1)
	if asked, pending := n.wallet.Asked(); !pending || asked.Seq != 2 || n.Commit() != c.nodes[1].Commit() {
		t.Errorf("pending is %v, %t", asked, pending)
	}
	conns(t, n, pool.Conn{Token: 2, Sess: 1})
}

// A token that is granted too late isn't trusted; the node asks again.
func TestLate(t *testing.T) {
	c := newCluster(t, setup(2, 3))
	c.lead(1)
	n := c.nodes[2]
	c.did(n.Client(1, "B"))
	put := c.mail
	c.mail = nil
	c.did(n.Clock(100))
	c.mail = put
	c.beat(1)
	c.beat(1)
	conns(t, n, pool.Conn{Token: 2, Sess: 1})
	if l := n.Ledger(); len(l.Held) != 2 || n.requests != 2 {
		t.Errorf("the ledger is %v", l)
	}
}

// P20.2: a leader that is new waits a whole lease, however long the rows have stood.
func TestNewLeader(t *testing.T) {
	c := newCluster(t, setup(3, 3))
	c.lead(1)
	c.client(3, 1, "B")
	c.nodes[3] = nil
	c.clock(90)
	c.nodes[1] = nil
	c.did(c.nodes[2].Clock(95))
	first := c.nodes[2].Hard().Term
	c.start(3, 95)
	c.did(c.nodes[2].Stand())
	c.beat(2)
	if c.nodes[2].Leader() != 2 || c.nodes[2].Hard().Term != first+1 {
		t.Fatal("node 2 does not lead")
	}
	c.clock(194)
	if len(c.nodes[2].Ledger().Held) != 1 {
		t.Error("a token is reclaimed too early")
	}
	c.clock(195)
	if len(c.nodes[2].Ledger().Held) != 0 {
		t.Error("a token is not reclaimed")
	}
}

// P20.2: also one that led before, and knew the rows then.
func TestLeadsAgain(t *testing.T) {
	c := newCluster(t, setup(3, 3))
	c.lead(1)
	c.client(3, 1, "B")
	c.nodes[3] = nil
	c.clock(90)
	c.did(c.nodes[2].Stand())
	c.beat(2)
	c.did(c.nodes[1].Stand())
	c.beat(1)
	if c.nodes[1].Leader() != 1 || c.nodes[2].Leader() != 1 {
		t.Fatal("node 1 does not lead again")
	}
	c.clock(189)
	if len(c.nodes[1].Ledger().Held) != 1 {
		t.Error("a token is reclaimed too early")
	}
	c.clock(190)
	if len(c.nodes[1].Ledger().Held) != 0 {
		t.Error("a token is not reclaimed")
	}
}

// P20.1: the wallet's time begins with that of the node.
func TestStartTime(t *testing.T) {
	c := newCluster(t, setup(1, 3))
	n := c.start(1, 50)
	c.lead(1)
	c.did(n.Client(1, "Q\x01x"))
	if l := n.wallet.All(); len(l) != 1 || l[0].Until != 150 {
		t.Errorf("the trusts are %v", l)
	}
	// One call goes all the way from the frame to the query.
	if !slices.Equal(n.Queries(), []int{1}) {
		t.Errorf("the queries are %v", n.Queries())
	}
}

// Serving: who wants a connection while one is idle gets it at once.
func TestIdle(t *testing.T) {
	c, n := one(t, 3)
	c.did(n.Client(1, "BE"))
	c.did(n.Client(2, "B"))
	conns(t, n, pool.Conn{Token: 1, Sess: 2})
	told(t, n, 2, reply(api.Ready))
}

// Requesting: what is to be released isn't trusted any more, even before it is.
func TestReleasing(t *testing.T) {
	c := newCluster(t, setup(2, 3))
	c.lead(1)
	c.client(2, 1, "BE")
	out, _ := c.nodes[2].Clock(50)
	if len(out) != 1 || out[0].Entries[0].Cmd.Kind != api.Release || len(c.nodes[2].Conns()) != 0 || len(c.nodes[2].wallet.All()) != 0 {
		t.Errorf("sent is %v, and the trusts are %v", out, c.nodes[2].wallet.All())
	}
}

// Receiving an Answer: what isn't the outcome that counts does nothing, and a token without a connection isn't kept.
func TestReceive(t *testing.T) {
	_, n := one(t, 3)
	grant := api.Cmd{Kind: api.Grant, Node: 1, Boot: 1, Seq: 9}
	n.wallet.Ask(grant)
	n.receive(api.Answer{Code: api.Stale})
	if n.refused {
		t.Error("a stale request counts as refused")
	}
	for token := 101; token <= 100+api.MaxConns; token++ {
		n.pool.Open(token)
	}
	n.wallet.Ask(grant)
	n.receive(api.Answer{Code: api.Granted, Token: 5, Serial: 1})
	if len(n.wallet.All()) != 0 || len(n.Conns()) != api.MaxConns {
		t.Errorf("the trusts are %v", n.wallet.All())
	}
}

// Receiving an Answer: who is refused sends its sessions to the node with the most tokens, the lowest of several.
func TestRichest(t *testing.T) {
	for i, x := range []struct{ self, want int }{{4, 1}, {1, 7}} {
		n := &Node{self: x.self}
		for token, k := range []int{7, 1, x.self, 7, 1, 3, x.self, x.self} {
			n.ledger.Held = append(n.ledger.Held, api.Held{Token: token, Node: k})
		}
		if got := n.richest(); got != x.want {
			t.Errorf("case %d: the richest node is %d", i, got)
		}
	}
	if n := (&Node{self: 2, ledger: api.Ledger{Held: []api.Held{{Node: 2}}}}); n.richest() != 0 {
		t.Error("a node is richer than others that have nothing")
	}
}

// P20.3: the machine's errors come out, and change nothing.
func TestMachine(t *testing.T) {
	c := newCluster(t, setup(2, 3))
	n := c.nodes[1]
	for name, x := range map[string]struct {
		call func() ([]api.Msg, api.Errno)
		want api.Errno
	}{
		"Take":   {func() ([]api.Msg, api.Errno) { return n.Take(api.Msg{}) }, api.ErrMsg},
		"Beat":   {n.Beat, api.ErrLead},
		"Squash": {n.Squash, api.ErrNone},
		"Change": {func() ([]api.Msg, api.Errno) { return n.Change([]int{1}) }, api.ErrLead},
	} {
		if out, e := x.call(); out != nil || e != x.want {
			t.Errorf("%s is %v, %d", name, out, e)
		}
	}
	c.lead(1)
	if _, e := n.Stand(); e != api.ErrState {
		t.Errorf("Stand of a leader is %d", e)
	}
	if _, e := n.Change([]int{2, 1}); e != api.ErrCmd {
		t.Errorf("Change to no set is %d", e)
	}
	if _, e := n.Change([]int{2}); e != api.ErrConf {
		t.Errorf("Change by two is %d", e)
	}
	l := []int{1}
	c.did(n.Change(l))
	l[0] = 77
	c.round()
	if log := n.Hard().Log; !slices.Equal(log[len(log)-1].Cmd.Nodes, []int{1}) || n.Commit() != 2 {
		t.Errorf("the log is %v", log)
	}
	if _, e := c.nodes[2].Stand(); e == api.OK {
		c.did(n.Squash())
	}
}

// Performing a deed: when the disk fails, so does the node, and stays so.
func TestFails(t *testing.T) {
	calls := func(n *Node) []func() ([]api.Msg, api.Errno) {
		return []func() ([]api.Msg, api.Errno){
			n.Stand, n.Beat, n.Squash, func() ([]api.Msg, api.Errno) { return n.Clock(5) }, func() ([]api.Msg, api.Errno) { return n.Take(api.Msg{}) },
			func() ([]api.Msg, api.Errno) { return n.Change(nil) }, func() ([]api.Msg, api.Errno) { return n.Client(0, "") }, func() ([]api.Msg, api.Errno) { return n.Hang(0) },
			func() ([]api.Msg, api.Errno) { return n.Serve(0, "") },
		}
	}
	for _, arm := range []int{0, 20} {
		c, n := one(t, 2)
		c.client(1, 1, "B")
		c.disks[1].Arm(arm)
		if out, e := n.Client(2, "B"); out != nil || e != api.ErrDown {
			t.Errorf("Client when the disk fails is %v, %d", out, e)
		}
		c.disks[1].Crash(nil)
		c.disks[1].Power()
		for i, call := range calls(n) {
			if out, e := call(); out != nil || e != api.ErrDown {
				t.Errorf("case %d: a call of a node that failed is %v, %d", i, out, e)
			}
		}
		again := c.start(1, 7)
		if again.Hard().Boot != 2 || again.Hard().Term != 1 || again.Hard().Vote != 1 || len(again.Conns()) != 0 || len(again.wallet.All()) != 0 {
			t.Errorf("the node that starts again has %v", again.Hard())
		}
	}
	for _, n := range []*Node{nil, {}} {
		for i, call := range calls(n) {
			if out, e := call(); out != nil || e != api.ErrDown {
				t.Errorf("case %d: a call of no node is %v, %d", i, out, e)
			}
		}
		if n.Conns() != nil || n.Queries() != nil || n.Query(1) != "" || n.Commit() != 0 || n.Leader() != 0 || n.Session(1) || n.Replies(1) != nil || n.Ledger().Limit != 0 || n.Hard().Boot != 0 {
			t.Error("no node has something")
		}
	}
}

// A new life of a node does not take over what the old one asked for.
func TestReboot(t *testing.T) {
	c, n := one(t, 2)
	c.client(1, 1, "B")
	n = c.start(1, 10)
	c.lead(1)
	c.client(1, 1, "B")
	conns(t, n, pool.Conn{Token: 2, Sess: 1})
	if l := n.Ledger(); len(l.Held) != 2 || l.Held[0].Boot != 1 || l.Held[1].Boot != 2 {
		t.Errorf("the ledger is %v", l)
	}
	c.clock(60)
	c.clock(110)
	if l := n.Ledger(); len(l.Held) != 1 || l.Held[0].Boot != 2 {
		t.Errorf("the ledger is %v", l)
	}
}

// R2
func TestOwnMemory(t *testing.T) {
	c, n := one(t, 2)
	c.client(1, 1, "B"+strings.Repeat("E", 1))
	n.Ledger().Held[0].Token = 77
	n.Conns()[0].Token = 77
	n.Hard().Shot.Nodes[0] = 77
	if n.Ledger().Held[0].Token != 1 || n.Conns()[0].Token != 1 || n.Hard().Shot.Nodes[0] != 1 {
		t.Error("a node shares its memory")
	}
}
