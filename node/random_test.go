package node

import (
	"math/rand"
	"testing"

	"stopcock/api"
	"stopcock/mux"
)

// holds checks what P20.6 says of a node.
func holds(t *testing.T, n *Node) {
	t.Helper()
	trusted := map[int]bool{}
	for _, x := range n.wallet.All() {
		trusted[x.Token] = true
	}
	has := map[int]int{}
	for _, c := range n.Conns() {
		if !trusted[c.Token] {
			t.Fatalf("node %d has a connection under the token %d, which it does not trust", n.self, c.Token)
		}
		has[c.Sess]++
		if c.Sess != 0 && (has[c.Sess] > 1 || !n.Session(c.Sess)) {
			t.Fatalf("the connections of node %d are %v", n.self, n.Conns())
		}
	}
	for _, token := range n.Queries() {
		sess := n.holder(token)
		if sess == 0 || n.sessions[sess].Clone().Answer("") != api.OK {
			t.Fatalf("node %d has a query on the token %d, of the session %d", n.self, token, sess)
		}
	}
	for _, sess := range n.pool.Waits() {
		if n.sessions[sess].Clone().Got() != api.OK {
			t.Fatalf("the session %d of node %d waits in the pool alone", sess, n.self)
		}
	}
	for sess := 1; sess <= api.MaxSess; sess++ {
		if action, _ := n.sessions[sess].Clone().Next(); action != mux.Nothing {
			t.Fatalf("the session %d of node %d has still something to do", sess, n.self)
		}
	}
}

// anything lets something happen at a node.
func anything(r *rand.Rand, n *Node, now int64) ([]api.Msg, api.Errno) {
	sess, token := 1+r.Intn(6), 1+r.Intn(4)
	switch r.Intn(30) {
	case 0:
		return n.Stand()
	case 1, 2, 3, 4, 5, 6:
		return n.Beat()
	case 7:
		return n.Squash()
	case 8:
		return n.Hang(sess)
	case 9, 10, 11, 12, 13:
		return n.Serve(token, "y")
	case 14, 15, 16, 17:
		return n.Clock(now)
	}
	b := []string{"B", "E", "Q\x01x", "Q\x00", "BQ\x01xE", "?"}[r.Intn(30)%6]
	return n.Client(sess, b)
}

// P20.6
func TestConsequences(t *testing.T) {
	replies := 0
	for seed := range int64(30) {
		r := rand.New(rand.NewSource(seed))
		c := newCluster(t, setup(3, 4))
		c.lead(1)
		now := int64(0)
		for range 600 {
			now += int64(r.Intn(6))
			k := 1 + r.Intn(3)
			n := c.nodes[k]
			if r.Intn(300) == 0 {
				n = c.start(k, now)
			}
			out, _ := anything(r, n, now)
			c.mail = append(c.mail, out...)
			for len(c.mail) > 0 && r.Intn(3) > 0 {
				x := c.mail[0]
				c.mail = c.mail[1:]
				if r.Intn(20) > 0 {
					c.did(c.nodes[x.To].Take(x))
				}
				holds(t, c.nodes[x.To])
			}
			holds(t, n)
			replies += len(n.Replies(1 + r.Intn(6)))
		}
	}
	if replies < 1000 {
		t.Errorf("there were only %d replies", replies)
	}
}
