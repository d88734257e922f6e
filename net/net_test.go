package net

import (
	"math"
	"math/rand"
	"slices"
	"strings"
	"testing"

	"stopcock/api"
)

func letter(s string) Letter { return Letter{From: 1, To: 7, Bytes: s} }

// P11.1
func TestNew(t *testing.T) {
	n := New()
	if n.Len() != 0 || len(n.All()) != 0 {
		t.Error("a new network has letters")
	}
}

// P11.2: Send.
func TestSend(t *testing.T) {
	n := New()
	for _, x := range []struct{ from, to int }{{0, 1}, {1, 0}, {8, 1}, {1, 8}, {-1, -1}, {math.MaxInt, math.MinInt}} {
		if e := n.Send(Letter{From: x.from, To: x.to, Bytes: strings.Repeat("x", 9000)}); e != api.ErrArg {
			t.Errorf("Send from %d to %d is %d", x.from, x.to, e)
		}
	}
	if e := n.Send(letter(strings.Repeat("x", 8200))); e != api.OK {
		t.Errorf("Send of the longest letter is %d", e)
	}
	if e := n.Send(letter(strings.Repeat("x", 8201))); e != api.ErrLong {
		t.Errorf("Send of a longer letter is %d", e)
	}
	if e := n.Send(Letter{From: 3, To: 3}); e != api.OK {
		t.Errorf("Send of an empty letter to oneself is %d", e)
	}
	for n.Len() < api.MaxQueue {
		n.Send(letter("a"))
	}
	if e := n.Send(letter("b")); e != api.ErrFull || n.Len() != 200 {
		t.Errorf("Send of one more is %d", e)
	}
	if e := n.Send(letter(strings.Repeat("x", 8201))); e != api.ErrLong {
		t.Errorf("Send of a longer one is %d", e)
	}
	if e := n.Double(0); e != api.ErrFull || n.Double(200) != api.ErrNone || n.Double(-1) != api.ErrNone {
		t.Errorf("Double is %d", e)
	}
	if l, e := n.Take(1); l != (Letter{From: 3, To: 3}) || e != api.OK || n.Double(0) != api.OK || n.All()[199] != letter(strings.Repeat("x", 8200)) {
		t.Errorf("Take is %v, %d", l, e)
	}
}

// P11.2: Take and Double.
func TestTake(t *testing.T) {
	n := New()
	n.Send(Letter{1, 2, "a"})
	n.Send(Letter{2, 1, "b"})
	for _, i := range []int{-1, 2, math.MaxInt, math.MinInt} {
		if l, e := n.Take(i); l != (Letter{}) || e != api.ErrNone || n.Double(i) != api.ErrNone {
			t.Errorf("Take(%d) is %v, %d", i, l, e)
		}
	}
	if e := n.Double(0); e != api.OK {
		t.Errorf("Double is %d", e)
	}
	if l, e := n.Take(1); l != (Letter{2, 1, "b"}) || e != api.OK {
		t.Errorf("Take is %v, %d", l, e)
	}
	if !slices.Equal(n.All(), []Letter{{1, 2, "a"}, {1, 2, "a"}}) {
		t.Errorf("All is %v", n.All())
	}
	if e := New().Double(0); e != api.ErrNone {
		t.Errorf("Double of nothing is %d", e)
	}
}

// P11.1, R2, R5
func TestClone(t *testing.T) {
	n := New()
	n.Send(letter("a"))
	n.Send(letter("b"))
	c := n.Clone()
	n.All()[0].Bytes = "x"
	n.Take(0)
	n.Send(letter("c"))
	c.Send(letter("d"))
	if !slices.Equal(n.All(), []Letter{letter("b"), letter("c")}) || !slices.Equal(c.All(), []Letter{letter("a"), letter("b"), letter("d")}) {
		t.Errorf("there are %v, and in the clone %v", n.All(), c.All())
	}
}

// P11.3: the letters are those of a plain list.
func TestList(t *testing.T) {
	r := rand.New(rand.NewSource(1))
	n, l := New(), []Letter(nil)
	for range 3000 {
		switch i := r.Intn(8); r.Intn(4) {
		case 0, 1:
			x := Letter{1 + r.Intn(7), 1 + r.Intn(7), string(rune('a' + r.Intn(26)))}
			n.Send(x)
			l = append(l, x)
		case 2:
			if got, e := n.Take(i); e == api.OK {
				if got != l[i] {
					t.Fatalf("Take(%d) is %v, not %v", i, got, l[i])
				}
				l = slices.Delete(l, i, i+1)
			}
		case 3:
			if n.Len() < 20 && n.Double(i) == api.OK {
				l = append(l, l[i])
			}
		}
		for n.Len() > 30 {
			n.Take(30)
			l = slices.Delete(l, 30, 31)
		}
		if !slices.Equal(n.All(), l) || n.Len() != len(l) {
			t.Fatalf("All is %v, not %v", n.All(), l)
		}
	}
}

// A network that was not made takes no letters.
func TestNone(t *testing.T) {
	var n *Net
	if _, e := n.Take(0); e != api.ErrNone || n.Send(letter("a")) != api.ErrArg || n.Double(0) != api.ErrNone || n.Len() != 0 || n.All() != nil || n.Clone() != nil {
		t.Error("a network that was not made takes letters")
	}
}
