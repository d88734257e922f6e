package pool

import (
	"math"
	"math/rand"
	"reflect"
	"slices"
	"testing"

	"stopcock/api"
)

// is checks the outcome of a call.
func is(t *testing.T, what string, n int, e api.Errno, want int, wantErr api.Errno) {
	t.Helper()
	if n != want || e != wantErr {
		t.Fatalf("%s is %d, %d, not %d, %d", what, n, e, want, wantErr)
	}
}

func open(t *testing.T, p *Pool, token, want int, e api.Errno) {
	t.Helper()
	n, got := p.Open(token)
	is(t, "Open", n, got, want, e)
}

func closes(t *testing.T, p *Pool, token, want int, e api.Errno) {
	t.Helper()
	n, got := p.Close(token)
	is(t, "Close", n, got, want, e)
}

func wants(t *testing.T, p *Pool, sess, want int, e api.Errno) {
	t.Helper()
	n, got := p.Want(sess)
	is(t, "Want", n, got, want, e)
}

func frees(t *testing.T, p *Pool, sess, want int, e api.Errno) {
	t.Helper()
	n, got := p.Free(sess)
	is(t, "Free", n, got, want, e)
}

func leaves(t *testing.T, p *Pool, sess, want int, e api.Errno) {
	t.Helper()
	n, got := p.Leave(sess)
	is(t, "Leave", n, got, want, e)
}

func state(t *testing.T, p *Pool, conns []Conn, waits ...int) {
	t.Helper()
	if !slices.Equal(p.Conns(), conns) || !slices.Equal(p.Waits(), waits) {
		t.Fatalf("there are %v, and %v wait", p.Conns(), p.Waits())
	}
}

// The document's example.
func TestExample(t *testing.T) {
	p := New()
	state(t, p, nil)
	wants(t, p, 3, 0, api.OK)
	wants(t, p, 1, 0, api.OK)
	state(t, p, nil, 3, 1)
	open(t, p, 7, 3, api.OK)
	frees(t, p, 3, 1, api.OK)
	closes(t, p, 7, 1, api.OK)
	open(t, p, 5, 0, api.OK)
	wants(t, p, 2, 5, api.OK)
	state(t, p, []Conn{{5, 2}})
}

// P18.2
func TestOpenClose(t *testing.T) {
	p := New()
	for _, token := range []int{0, -1, 65536, math.MinInt, math.MaxInt} {
		open(t, p, token, 0, api.ErrArg)
		closes(t, p, token, 0, api.ErrNone)
	}
	for i, token := range []int{65535, 1, 9, 5, 7, 3, 8} {
		open(t, p, token, 0, api.OK)
		if len(p.Conns()) != i+1 {
			t.Fatalf("there are %v", p.Conns())
		}
	}
	open(t, p, 9, 0, api.ErrState)
	open(t, p, 4, 0, api.OK)
	open(t, p, 6, 0, api.ErrMany)
	open(t, p, 9, 0, api.ErrState)
	open(t, p, 0, 0, api.ErrArg)
	state(t, p, []Conn{{1, 0}, {3, 0}, {4, 0}, {5, 0}, {7, 0}, {8, 0}, {9, 0}, {65535, 0}})
	wants(t, p, 6, 1, api.OK)
	closes(t, p, 1, 6, api.OK)
	closes(t, p, 1, 0, api.ErrNone)
	closes(t, p, 65535, 0, api.OK)
	open(t, p, 6, 0, api.OK)
	state(t, p, []Conn{{3, 0}, {4, 0}, {5, 0}, {6, 0}, {7, 0}, {8, 0}, {9, 0}})
	if p.Has(6) != 0 {
		t.Error("a session has a connection that was closed")
	}
}

// P18.3
func TestWant(t *testing.T) {
	p := New()
	for _, sess := range []int{0, 7, -1, math.MinInt, math.MaxInt} {
		wants(t, p, sess, 0, api.ErrArg)
	}
	open(t, p, 9, 0, api.OK)
	open(t, p, 4, 0, api.OK)
	wants(t, p, 1, 4, api.OK)
	wants(t, p, 1, 0, api.ErrState)
	wants(t, p, 2, 9, api.OK)
	for _, sess := range []int{5, 3, 6, 4} {
		wants(t, p, sess, 0, api.OK)
	}
	wants(t, p, 3, 0, api.ErrState)
	wants(t, p, 1, 0, api.ErrState)
	leaves(t, p, 2, 5, api.OK)
	wants(t, p, 2, 0, api.OK)
	state(t, p, []Conn{{4, 1}, {9, 5}}, 3, 6, 4, 2)
	closes(t, p, 4, 1, api.OK)
	wants(t, p, 1, 0, api.ErrBusy)
	state(t, p, []Conn{{9, 5}}, 3, 6, 4, 2)
}

// P18.4
func TestFreeLeave(t *testing.T) {
	p := New()
	open(t, p, 4, 0, api.OK)
	for _, sess := range []int{0, 1, 7, -1, math.MinInt, math.MaxInt} {
		frees(t, p, sess, 0, api.ErrNone)
		leaves(t, p, sess, 0, api.ErrNone)
		if p.Has(sess) != 0 {
			t.Errorf("session %d has a connection", sess)
		}
	}
	wants(t, p, 1, 4, api.OK)
	for _, sess := range []int{2, 3, 4} {
		wants(t, p, sess, 0, api.OK)
	}
	frees(t, p, 3, 0, api.ErrNone)
	leaves(t, p, 3, 0, api.OK)
	leaves(t, p, 3, 0, api.ErrNone)
	state(t, p, []Conn{{4, 1}}, 2, 4)
	leaves(t, p, 1, 2, api.OK)
	if p.Has(2) != 4 || p.Has(1) != 0 || p.Has(4) != 0 {
		t.Error("Has is wrong")
	}
	leaves(t, p, 4, 0, api.OK)
	frees(t, p, 2, 0, api.OK)
	frees(t, p, 2, 0, api.ErrNone)
	state(t, p, []Conn{{4, 0}})
}

// P18.1, R2, R5
func TestClone(t *testing.T) {
	p := New()
	open(t, p, 4, 0, api.OK)
	wants(t, p, 1, 4, api.OK)
	wants(t, p, 2, 0, api.OK)
	c := p.Clone()
	p.Conns()[0].Sess = 77
	p.Waits()[0] = 77
	leaves(t, p, 2, 0, api.OK)
	open(t, c, 5, 2, api.OK)
	state(t, p, []Conn{{4, 1}})
	state(t, c, []Conn{{4, 1}, {5, 2}})
}

// P18.5
func TestConsequences(t *testing.T) {
	r := rand.New(rand.NewSource(1))
	p := New()
	since := map[int]int{}
	for now := range 20000 {
		before := p.Waits()
		token, sess := 1+r.Intn(12), 1+r.Intn(6)
		twin := p.Clone()
		var e api.Errno
		switch r.Intn(8) {
		case 0:
			_, e = p.Open(token)
		case 1, 2:
			_, e = p.Close(token)
		case 3, 4, 5:
			if _, e = p.Want(sess); e == api.OK {
				since[sess] = now
			}
		case 6:
			_, e = p.Free(sess)
		case 7:
			_, e = p.Leave(sess)
		}
		if e != api.OK && !reflect.DeepEqual(p, twin) {
			t.Fatal("a call with an error changes something")
		}
		has := map[int]int{}
		idle := 0
		for _, c := range p.Conns() {
			if c.Sess == 0 {
				idle++
				continue
			}
			has[c.Sess]++
			if has[c.Sess] > 1 || slices.Contains(p.Waits(), c.Sess) || p.Has(c.Sess) != c.Token {
				t.Fatalf("session %d: %v, %v", c.Sess, p.Conns(), p.Waits())
			}
			for _, other := range before {
				if slices.Contains(before, c.Sess) && slices.Contains(p.Waits(), other) && since[other] < since[c.Sess] {
					t.Fatalf("session %d is served before %d", c.Sess, other)
				}
			}
		}
		if idle > 0 && len(p.Waits()) > 0 || len(p.Conns()) > api.MaxConns || len(p.Waits()) > api.MaxWait {
			t.Fatalf("there are %v, and %v wait", p.Conns(), p.Waits())
		}
	}
}

// A pool that was not made has nothing.
func TestNone(t *testing.T) {
	var p *Pool
	open(t, p, 1, 0, api.ErrArg)
	closes(t, p, 1, 0, api.ErrNone)
	wants(t, p, 1, 0, api.ErrArg)
	frees(t, p, 1, 0, api.ErrNone)
	leaves(t, p, 1, 0, api.ErrNone)
	if p.Has(1) != 0 || p.Conns() != nil || p.Waits() != nil || p.Clone() != nil {
		t.Error("a pool that was not made has something")
	}
}
