package raft

import (
	"math/rand"
	"reflect"
	"testing"

	"stopcock/api"
	"stopcock/hard"
	"stopcock/msg"
	"stopcock/rlog"
)

// cluster is machines, what is stored of them, and the messages between them.
type cluster struct {
	t       *testing.T
	r       *rand.Rand
	m       [api.MaxNodes + 1]*Machine
	stored  [api.MaxNodes + 1]api.Hard
	mail    []api.Msg
	leaders map[uint64]int
	log     map[uint64]api.Entry // what was seen at indices up to some Commit
	seq     uint64
	commits int
	first   api.Shot // with which all began
}

func newCluster(t *testing.T, seed int64, many int) *cluster {
	c := &cluster{t: t, r: rand.New(rand.NewSource(seed)), leaders: map[uint64]int{}, log: map[uint64]api.Entry{}}
	var l []int
	for n := 1; n <= many; n++ {
		l = append(l, n)
	}
	c.first = picture(0, 0, l...)
	for n := 1; n <= api.MaxNodes; n++ {
		c.stored[n] = api.Hard{Shot: c.first}
		c.m[n], _ = New(n, c.stored[n])
	}
	return c
}

// did stores a deed's records, and then sends its messages; or the node crashes on the way.
func (c *cluster) did(n int, d Deed) {
	crash := c.r.Intn(200) == 0
	kept := len(d.Recs)
	if crash {
		kept = c.r.Intn(len(d.Recs) + 1)
	}
	for _, rec := range d.Recs[:kept] {
		h, e := hard.Do(c.stored[n], rec)
		if e != api.OK {
			c.t.Fatalf("node %d: hard.Do rejects %v", n, rec)
		}
		c.stored[n] = h
	}
	if crash {
		c.m[n], _ = New(n, c.stored[n])
		return
	}
	if a, b := c.m[n].Hard(), c.stored[n]; a.Term != b.Term || a.Vote != b.Vote || len(a.Log) != len(b.Log) || a.Shot.Index != b.Shot.Index {
		c.t.Fatalf("node %d has %v, and stored is %v", n, a, b)
	}
	for _, x := range d.Out {
		if msg.Check(x) != api.OK || x.From != n || x.Kind != api.Put && x.Term != c.m[n].Hard().Term {
			c.t.Fatalf("node %d sends %v", n, x)
		}
		if c.r.Intn(10) > 0 && len(c.mail) < 150 {
			c.mail = append(c.mail, x)
		}
	}
}

// deliver delivers some message, perhaps not for the last time.
func (c *cluster) deliver() {
	if len(c.mail) == 0 {
		return
	}
	i := c.r.Intn(len(c.mail))
	if c.r.Intn(3) > 0 {
		i = 0
	}
	x := c.mail[i]
	if c.r.Intn(12) > 0 {
		c.mail = append(c.mail[:i:i], c.mail[i+1:]...)
	}
	d, e := c.m[x.To].Take(x)
	if e != api.OK {
		c.t.Fatalf("Take(%v) is %d", x, e)
	}
	c.did(x.To, d)
}

// act lets something happen that is no message.
func (c *cluster) act() {
	n := 1 + c.r.Intn(api.MaxNodes)
	if k := c.m[n].Leader(); k != 0 && c.r.Intn(2) == 0 {
		n = k
	}
	m := c.m[n]
	var d Deed
	switch c.r.Intn(9) {
	case 0:
		if c.r.Intn(3) == 0 {
			d, _ = m.Stand()
		}
	case 1, 2:
		d, _ = m.Beat()
	case 3, 4, 5:
		c.seq++
		d, _ = m.Propose(grantCmd(n, c.seq))
	case 6:
		d, _ = m.Squash()
	case 7:
		var l []int
		for k := 1; k <= api.MaxNodes; k++ {
			has := false
			for _, v := range m.Nodes() {
				has = has || v == k
			}
			if has != (c.r.Intn(6) == 0) {
				l = append(l, k)
			}
		}
		d, _ = m.Propose(api.Cmd{Kind: api.Conf, Nodes: l})
	case 8:
		if c.r.Intn(8) == 0 {
			c.m[n], _ = New(n, c.stored[n])
		}
	}
	c.did(n, d)
}

// look checks that no Term has two leaders, and that all have the same up to their Commit.
func (c *cluster) look() {
	for n := 1; n <= api.MaxNodes; n++ {
		m := c.m[n]
		h := m.Hard()
		if m.Leader() == n {
			if other := c.leaders[h.Term]; other != 0 && other != n {
				c.t.Fatalf("nodes %d and %d lead in Term %d", n, other, h.Term)
			}
			c.leaders[h.Term] = n
		}
		if last, _ := rlog.Last(h); m.Commit() > last || m.Commit() < h.Shot.Index {
			c.t.Fatalf("node %d has Commit %d", n, m.Commit())
		}
		for i := h.Shot.Index + 1; i <= m.Commit(); i++ {
			x := h.Log[i-h.Shot.Index-1]
			if y, ok := c.log[i]; ok && !reflect.DeepEqual(x, y) {
				c.t.Fatalf("at %d there are %v and %v", i, x, y)
			} else if !ok {
				c.log[i] = x
				c.commits++
			}
		}
		c.image(n, h)
	}
}

// image checks that a snapshot is that of the entries which were seen.
func (c *cluster) image(n int, h api.Hard) {
	if h.Shot.Index == 0 {
		return
	}
	base := api.Hard{Term: 1 << 62, Shot: c.first}
	for i := uint64(1); i <= h.Shot.Index; i++ {
		base.Log = append(base.Log, c.log[i])
	}
	s, e := rlog.At(base, h.Shot.Index)
	if e != api.OK || s.Term != h.Shot.Term || !reflect.DeepEqual(s.Nodes, h.Shot.Nodes) || s.Ledger.Next != h.Shot.Ledger.Next || len(s.Ledger.Held) != len(h.Shot.Ledger.Held) {
		c.t.Fatalf("node %d has the snapshot %v, and it should be %v", n, h.Shot, s)
	}
}

// P16.5: whatever is lost, doubled and delayed, and whoever crashes.
func TestSafety(t *testing.T) {
	commits, leaders := 0, 0
	for seed := range int64(24) {
		c := newCluster(t, seed, 1+int(seed)%5)
		for range 3000 {
			if c.r.Intn(5) == 0 {
				c.act()
			} else {
				c.deliver()
			}
			c.look()
		}
		commits += c.commits
		leaders += len(c.leaders)
	}
	if commits < 800 || leaders < 90 {
		t.Errorf("only %d entries were committed, and there were %d leaders", commits, leaders)
	}
}
