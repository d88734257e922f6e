package stream

import (
	"math/rand"
	"slices"
	"strings"
	"testing"

	"stopcock/api"
)

func begin() api.Frame { return api.Frame{Kind: api.Begin} }

func end() api.Frame { return api.Frame{Kind: api.End} }

func query(text string) api.Frame { return api.Frame{Kind: api.Query, Text: text} }

// P9.1, P9.2
func TestFeed(t *testing.T) {
	full := strings.Repeat("z", api.MaxText)
	r := New()
	for i, x := range []struct {
		b      string
		want   []api.Frame
		left   int
		broken bool
	}{
		{"", nil, 0, false}, {"BQ", []api.Frame{begin()}, 1, false}, {"\x02h", nil, 3, false}, {"iE", []api.Frame{query("hi"), end()}, 0, false},
		{"Q", nil, 1, false}, {"\x00", []api.Frame{query("")}, 0, false}, {"Q\x30" + full[1:], nil, 49, false}, {"zEQ\x01", []api.Frame{query(full), end()}, 2, false},
		{"x", []api.Frame{query("x")}, 0, false}, {"EEBx", []api.Frame{end(), end(), begin()}, 0, true}, {"BEQ\x01x", nil, 0, true}, {"", nil, 0, true},
	} {
		if got := r.Feed([]byte(x.b)); !slices.Equal(got, x.want) || r.Left() != x.left || r.Broken() != x.broken {
			t.Fatalf("step %d: Feed(%q) is %v, with %d left, broken: %t", i, x.b, got, r.Left(), r.Broken())
		}
	}
}

// P9.1: what breaks a reader.
func TestBroken(t *testing.T) {
	for _, x := range []struct {
		b      string
		frames int
		broken bool
	}{
		{"x", 0, true}, {"b", 0, true}, {"\x00", 0, true}, {"BB\xffB", 2, true}, {"Q\x31", 0, true}, {"EQ\xffE", 1, true}, {"Q\x30", 0, false}, {"Q\x01\xff", 1, false}, {"Q\x02Q\x31B", 2, false},
	} {
		r := New()
		if got := r.Feed([]byte(x.b)); len(got) != x.frames || r.Broken() != x.broken || x.broken && r.Left() != 0 {
			t.Errorf("Feed(%q) is %v, broken: %t, left: %d", x.b, got, r.Broken(), r.Left())
		}
	}
}

// P9.2, R5
func TestClone(t *testing.T) {
	r := New()
	r.Feed([]byte("Q\x03a"))
	c := r.Clone()
	if c.Left() != 3 {
		t.Errorf("the clone has %d left", c.Left())
	}
	r.Feed([]byte("b"))
	c.Feed([]byte("x"))
	if got := r.Feed([]byte("c")); !slices.Equal(got, []api.Frame{query("abc")}) {
		t.Errorf("the reader returns %v", got)
	}
	if got := c.Feed([]byte("y")); !slices.Equal(got, []api.Frame{query("axy")}) {
		t.Errorf("the clone returns %v", got)
	}
	r.Feed([]byte("?"))
	if !r.Broken() || !r.Clone().Broken() || c.Broken() || New().Broken() {
		t.Error("who is broken is wrong")
	}
}

// P9.3
func TestBytes(t *testing.T) {
	b, e := Bytes([]api.Frame{begin(), query("hi"), query(""), end()})
	if string(b) != "BQ\x02hiQ\x00E" || e != api.OK {
		t.Errorf("Bytes is %q, %d", b, e)
	}
	if b, e := Bytes(nil); len(b) != 0 || e != api.OK {
		t.Errorf("Bytes of nothing is %q, %d", b, e)
	}
	for _, f := range []api.Frame{{}, {Kind: 'x'}, {Kind: api.Begin, Text: "a"}, {Kind: api.End, Text: "a"}, query(strings.Repeat("z", api.MaxText+1))} {
		if b, e := Bytes([]api.Frame{begin(), f, end()}); b != nil || e != api.ErrFrame {
			t.Errorf("Bytes of %v is %q, %d", f, b, e)
		}
	}
}

// P9.4
func TestPieces(t *testing.T) {
	r := rand.New(rand.NewSource(1))
	for range 3000 {
		var l []api.Frame
		for range r.Intn(6) {
			switch r.Intn(3) {
			case 0:
				l = append(l, begin())
			case 1:
				l = append(l, end())
			case 2:
				l = append(l, query(strings.Repeat("BQE\x01"[r.Intn(4):][:1], r.Intn(api.MaxText+1))))
			}
		}
		b, _ := Bytes(l)
		if r.Intn(3) == 0 {
			b = append(b, "xBQ\x01"...)
		}
		if got := New().Feed(b); !slices.Equal(got, l) {
			t.Fatalf("Feed of Bytes(%v) is %v", l, got)
		}
		in := New()
		var got []api.Frame
		for len(b) > 0 {
			k := r.Intn(len(b) + 1)
			piece := slices.Clone(b[:k])
			got = append(got, in.Feed(piece)...)
			clear(piece)
			b = b[k:]
		}
		if !slices.Equal(got, l) {
			t.Fatalf("Feed of %v in pieces is %v", l, got)
		}
	}
}

// A reader that was not made reads nothing.
func TestNone(t *testing.T) {
	var r *Reader
	if r.Feed([]byte("B")) != nil || r.Broken() || r.Left() != 0 || r.Clone() != nil {
		t.Error("a reader that was not made reads something")
	}
}
