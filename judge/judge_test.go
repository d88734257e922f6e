package judge

import (
	"math"
	"math/rand"
	"slices"
	"strings"
	"testing"

	"stopcock/api"
)

func opened(n, token int) api.Seen { return api.Seen{Kind: api.Opened, Node: n, Token: token} }

func closed(n, token int) api.Seen { return api.Seen{Kind: api.Closed, Node: n, Token: token} }

func fell(n int) api.Seen { return api.Seen{Kind: api.Fell, Node: n} }

func trail(l ...api.Seen) []api.Seen { return l }

// several opens so many connections of node 1.
func several(many int) []api.Seen {
	var l []api.Seen
	for token := 1; token <= many; token++ {
		l = append(l, opened(1, token))
	}
	return l
}

// P22.1
func TestJudge(t *testing.T) {
	for i, x := range []struct {
		limit int
		l     []api.Seen
		at    int
		e     api.Errno
	}{
		{2, nil, -1, api.OK}, {0, nil, -1, api.OK}, {2, trail(opened(1, 1), opened(2, 1)), 1, api.ErrTrace}, {2, trail(opened(1, 1), fell(1), opened(2, 1)), -1, api.OK},
		{2, trail(opened(1, 1), closed(1, 1), opened(2, 1), closed(2, 1), opened(2, 1)), -1, api.OK}, {2, trail(opened(1, 1), opened(1, 2)), -1, api.OK},
		{2, trail(opened(1, 1), opened(1, 1)), 1, api.ErrState}, {2, trail(closed(1, 1)), 0, api.ErrNone}, {2, trail(opened(1, 1), closed(2, 1)), 1, api.ErrNone},
		{2, trail(opened(1, 1), closed(1, 2)), 1, api.ErrNone}, {2, trail(opened(1, 1), closed(1, 1), closed(1, 1)), 2, api.ErrNone}, {2, trail(opened(1, 1), fell(1), closed(1, 1)), 2, api.ErrNone},
		{2, trail(opened(1, 1), fell(2), opened(2, 1)), 2, api.ErrTrace}, {2, trail(fell(7), fell(7)), -1, api.OK}, {2, trail(opened(1, 1), opened(1, 2), fell(1), opened(7, 2), opened(6, 1)), -1, api.OK},
		{1, trail(opened(1, 1), fell(2)), -1, api.OK},
		// What is no observation.
		{2, trail(opened(1, 3)), 0, api.ErrArg}, {2, trail(opened(1, 0)), 0, api.ErrArg}, {2, trail(opened(0, 1)), 0, api.ErrArg}, {2, trail(opened(8, 1)), 0, api.ErrArg},
		{2, trail(closed(1, 3)), 0, api.ErrArg}, {2, trail(fell(1), fell(8)), 1, api.ErrArg}, {2, trail(api.Seen{Kind: api.Fell, Node: 1, Token: 1}), 0, api.ErrArg}, {2, trail(api.Seen{Node: 1, Token: 1}), 0, api.ErrArg},
		{2, trail(api.Seen{Kind: 4, Node: 1, Token: 1}), 0, api.ErrArg}, {2, trail(api.Seen{Kind: math.MinInt, Node: math.MinInt, Token: math.MaxInt}), 0, api.ErrArg},
		{0, trail(fell(1)), 0, api.ErrArg}, {-1, trail(opened(1, 1)), 0, api.ErrArg}, {math.MinInt, trail(fell(1)), 0, api.ErrArg}, {math.MaxInt, trail(opened(1, math.MaxInt)), -1, api.OK},
		// How many a node may have.
		{99, several(8), -1, api.OK}, {99, several(9), 8, api.ErrMany}, {99, append(several(8), opened(1, 3)), 8, api.ErrState}, {99, append(several(8), opened(2, 9), opened(1, 9)), 9, api.ErrTrace},
		{99, append(several(8), closed(1, 3), opened(1, 9), opened(1, 10)), 10, api.ErrMany}, {99, append(append(several(8), fell(1)), several(9)...), 17, api.ErrMany},
	} {
		if at, e := Judge(x.limit, x.l); at != x.at || e != x.e {
			t.Errorf("case %d: Judge is %d, %d", i, at, e)
		}
		open, e := Replay(x.limit, x.l)
		if e != x.e || e != api.OK && open != nil {
			t.Errorf("case %d: Replay is %v, %d", i, open, e)
		}
	}
}

// P22.2
func TestReplay(t *testing.T) {
	l := trail(opened(7, 2), opened(1, 9), opened(2, 4), opened(1, 1), opened(7, 3), closed(7, 2), opened(7, 5), fell(2), opened(1, 4))
	want := []api.Conn{{Node: 1, Token: 1}, {Node: 1, Token: 4}, {Node: 1, Token: 9}, {Node: 7, Token: 3}, {Node: 7, Token: 5}}
	if open, e := Replay(9, l); !slices.Equal(open, want) || e != api.OK {
		t.Errorf("Replay is %v, %d", open, e)
	}
	if open, e := Replay(0, nil); len(open) != 0 || e != api.OK {
		t.Errorf("Replay of nothing is %v, %d", open, e)
	}
}

// P22.4
func TestConsequences(t *testing.T) {
	r := rand.New(rand.NewSource(1))
	wrong := 0
	for range 3000 {
		var l []api.Seen
		for range 30 {
			l = append(l, api.Seen{Kind: 1 + r.Intn(2), Node: 1 + r.Intn(3), Token: 1 + r.Intn(4)})
			if r.Intn(9) == 0 {
				l[len(l)-1] = fell(1 + r.Intn(3))
			}
			// Most of those that may not be are left out, so that there are long ones.
			if at, _ := Judge(4, l); at >= 0 && r.Intn(40) > 0 {
				l = l[:len(l)-1]
			}
		}
		at, _ := Judge(4, l)
		if at >= 0 {
			wrong++
		}
		for k := range l {
			prefix, e := Judge(4, l[:k])
			if (prefix == -1) != (at == -1 || k <= at) || prefix >= 0 && prefix != at {
				t.Fatalf("Judge of %v is %d, and of its first %d %d", l, at, k, prefix)
			}
			open, _ := Replay(4, l[:k])
			tokens := map[int]int{}
			for _, c := range open {
				tokens[c.Token]++
			}
			if e == api.OK && (len(tokens) != len(open) || len(open) > 4) {
				t.Fatalf("open are %v", open)
			}
		}
	}
	if wrong < 100 || wrong > 2900 {
		t.Errorf("%d of 3000 may not be", wrong)
	}
}

func begin() api.Frame { return api.Frame{Kind: api.Begin} }

func query(text string) api.Frame { return api.Frame{Kind: api.Query, Text: text} }

func end() api.Frame { return api.Frame{Kind: api.End} }

func reply(kind int) api.Reply { return api.Reply{Kind: kind} }

func moved(n int) api.Reply { return api.Reply{Kind: api.Moved, Node: n} }

func result(text string) api.Reply { return api.Reply{Kind: api.Result, Text: text} }

func fits(t *testing.T, what string, sent []api.Frame, served []string, told []api.Reply, at int, e api.Errno) {
	t.Helper()
	if gotAt, got := Fits(sent, served, told); gotAt != at || got != e {
		t.Errorf("%s: Fits(%v, %q, %v) is %d, %d, not %d, %d", what, sent, served, told, gotAt, got, at, e)
	}
}

// P22.3: the table, and where a session is behind each reply.
func TestTable(t *testing.T) {
	within := map[bool]map[byte]map[int]bool{ // in a transaction: frame: reply: in one behind it
		false: {
			api.Begin: {api.Ready: true, api.Busy: false, api.Moved: false}, api.Query: {api.Result: false, api.Busy: false, api.Moved: false, api.Aborted: false}, api.End: {api.Wrong: false},
		},
		true: {
			api.Begin: {api.Wrong: true, api.Aborted: false}, api.Query: {api.Result: true, api.Aborted: false}, api.End: {api.Done: false, api.Aborted: false},
		},
	}
	for in, rows := range within {
		for kind, may := range rows {
			for r := -1; r <= 10; r++ {
				sent, told := []api.Frame{{Kind: kind}}, []api.Reply{{Kind: r}}
				if in {
					sent, told = append([]api.Frame{begin()}, sent...), append([]api.Reply{reply(api.Ready)}, told...)
				}
				at := len(sent) - 1
				if r == api.Moved {
					told[at].Node = 7
				}
				after, ok := may[r]
				if !ok {
					fits(t, "a reply that may not be", sent, []string{""}, told, at, api.ErrArg)
					continue
				}
				fits(t, "a reply that may be", sent, []string{""}, told, -1, api.OK)
				// An End is answered Done in a transaction, and Wrong outside.
				sent = append(sent, end())
				if after {
					fits(t, "Done", sent, []string{""}, append(slices.Clone(told), reply(api.Done)), -1, api.OK)
					fits(t, "Wrong", sent, []string{""}, append(slices.Clone(told), reply(api.Wrong)), at+1, api.ErrArg)
				} else {
					fits(t, "Wrong", sent, []string{""}, append(slices.Clone(told), reply(api.Wrong)), -1, api.OK)
					fits(t, "Done", sent, []string{""}, append(slices.Clone(told), reply(api.Done)), at+1, api.ErrArg)
				}
			}
		}
	}
}

// P22.3
func TestFits(t *testing.T) {
	sent := []api.Frame{begin(), query("x")}
	fits(t, "the example", sent, []string{"y"}, []api.Reply{reply(api.Ready), result("y")}, -1, api.OK)
	fits(t, "another result", sent, []string{"y"}, []api.Reply{reply(api.Ready), result("z")}, 1, api.ErrTrace)
	fits(t, "no result", sent, nil, []api.Reply{reply(api.Ready), result("")}, 1, api.ErrTrace)
	fits(t, "nothing", nil, nil, nil, -1, api.OK)
	fits(t, "more frames and results", sent, []string{"y", "z"}, []api.Reply{reply(api.Ready)}, -1, api.OK)
	fits(t, "too many replies", sent, []string{"y"}, []api.Reply{reply(api.Ready), result("y"), reply(api.Done)}, 2, api.ErrMany)
	fits(t, "a reply to nothing", nil, nil, []api.Reply{{Kind: 99}}, 0, api.ErrMany)
	fits(t, "the results in order", []api.Frame{query("1"), query("2"), query("3")}, []string{"a", "b"}, []api.Reply{result("a"), reply(api.Busy), result("b")}, -1, api.OK)
	fits(t, "the results out of order", []api.Frame{query("1"), query("2")}, []string{"a", "b"}, []api.Reply{result("b"), result("a")}, 0, api.ErrTrace)
	for _, f := range []api.Frame{{}, {Kind: 'x'}, {Kind: api.Begin, Text: "a"}, {Kind: api.End, Text: "a"}, query(strings.Repeat("z", 49))} {
		fits(t, "a frame that may not be", []api.Frame{f}, nil, []api.Reply{{Kind: 99}}, 0, api.ErrFrame)
		fits(t, "a frame that is not answered", []api.Frame{begin(), f}, nil, []api.Reply{reply(api.Ready)}, -1, api.OK)
	}
	fits(t, "the longest frame", []api.Frame{query(strings.Repeat("z", 48))}, []string{""}, []api.Reply{result("")}, -1, api.OK)
	for _, r := range []api.Reply{
		moved(0), moved(8), moved(-1), {Kind: api.Moved, Node: 1, Text: "x"}, {Kind: api.Ready, Node: 1}, {Kind: api.Ready, Text: "x"}, {Kind: api.Busy, Node: 1}, {Kind: api.Busy, Text: "x"}, reply(api.Broken), {},
	} {
		fits(t, "a reply to a Begin that may not be", []api.Frame{begin()}, nil, []api.Reply{r}, 0, api.ErrArg)
	}
	fits(t, "a result with a node", []api.Frame{query("")}, []string{"z"}, []api.Reply{{Kind: api.Result, Node: 1, Text: "y"}}, 0, api.ErrArg)
	served := []string{"a", "b"}
	Fits([]api.Frame{query("1")}, served, []api.Reply{result("a")})
	if !slices.Equal(served, []string{"a", "b"}) {
		t.Error("Fits changes its argument")
	}
}
