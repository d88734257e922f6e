package ledger

import (
	"math"
	"math/rand"
	"reflect"
	"slices"
	"testing"

	"stopcock/api"
	"stopcock/cmd"
)

func grantOf(node int, boot, seq uint64) api.Cmd {
	return api.Cmd{Kind: api.Grant, Node: node, Boot: boot, Seq: seq}
}

func renewOf(node int, boot, seq uint64, token int, serial uint64) api.Cmd {
	return api.Cmd{Kind: api.Renew, Node: node, Boot: boot, Seq: seq, Token: token, Serial: serial}
}

func releaseOf(node int, boot, seq uint64, token int, serial uint64) api.Cmd {
	return api.Cmd{Kind: api.Release, Node: node, Boot: boot, Seq: seq, Token: token, Serial: serial}
}

func reclaimOf(token int, serial, stamp uint64) api.Cmd {
	return api.Cmd{Kind: api.Reclaim, Token: token, Serial: serial, Stamp: stamp}
}

// sample is a valid ledger with something in each list.
func sample() api.Ledger {
	return api.Ledger{
		Limit: 9, Next: 6,
		Held: []api.Held{{Token: 2, Node: 1, Boot: 3, Serial: 5, Stamp: 7}, {Token: 9, Node: 7, Boot: 1, Serial: 1, Stamp: 2}},
		Last: []api.Last{
			{Node: 1, Boot: 3, Seq: 4, Answer: api.Answer{Code: api.Granted, Token: 9, Serial: 5}},
			{Node: 3, Boot: 1, Seq: 1, Answer: api.Answer{Code: api.Gone}},
		},
	}
}

// P5.1
func TestNew(t *testing.T) {
	for _, limit := range []int{1, 2, 65535} {
		if l, e := New(limit); l.Limit != limit || l.Next != 1 || len(l.Held)+len(l.Last) != 0 || e != api.OK || Check(l) != api.OK {
			t.Errorf("New(%d) is %v, %d", limit, l, e)
		}
	}
	for _, limit := range []int{0, -1, 65536, math.MinInt, math.MaxInt} {
		if l, e := New(limit); !reflect.DeepEqual(l, api.Ledger{}) || e != api.ErrArg {
			t.Errorf("New(%d) is %v, %d", limit, l, e)
		}
	}
}

// P5.1
func TestCheck(t *testing.T) {
	if Check(sample()) != api.OK {
		t.Fatal("the sample is not valid")
	}
	for i, spoil := range []func(*api.Ledger){
		func(l *api.Ledger) { l.Limit = 8 }, func(l *api.Ledger) { l.Limit = 65536 }, func(l *api.Ledger) { l.Limit = 0 }, func(l *api.Ledger) { l.Limit = -1 },
		func(l *api.Ledger) { l.Next = 5 }, func(l *api.Ledger) { l.Next = 0 }, func(l *api.Ledger) { l.Held = nil; l.Next = 5 },
		func(l *api.Ledger) { l.Held[0].Token = 0 }, func(l *api.Ledger) { l.Held[0].Token = 9 }, func(l *api.Ledger) { l.Held[1].Token = 10 },
		func(l *api.Ledger) { l.Held[1].Token = 2 }, func(l *api.Ledger) { l.Held[0].Node = 0 }, func(l *api.Ledger) { l.Held[0].Node = 8 },
		func(l *api.Ledger) { l.Held[0].Boot = 0 }, func(l *api.Ledger) { l.Held[1].Serial = 5 }, func(l *api.Ledger) { l.Held[1].Serial = 0 },
		func(l *api.Ledger) { l.Held[1].Serial = 6 }, func(l *api.Ledger) { l.Held[1].Stamp = 0 },
		func(l *api.Ledger) { l.Last[0].Node = 0 }, func(l *api.Ledger) { l.Last[1].Node = 1 }, func(l *api.Ledger) { l.Last[1].Node = 8 },
		func(l *api.Ledger) { l.Last[0].Boot = 0 }, func(l *api.Ledger) { l.Last[0].Seq = 0 }, func(l *api.Ledger) { l.Last[0].Answer.Token = 10 },
		func(l *api.Ledger) { l.Last[0].Answer.Token = 0 }, func(l *api.Ledger) { l.Last[0].Answer.Serial = 6 }, func(l *api.Ledger) { l.Last[0].Answer.Serial = 0 },
		func(l *api.Ledger) { l.Last[1].Answer.Code = 0 }, func(l *api.Ledger) { l.Last[1].Answer.Code = api.Stale }, func(l *api.Ledger) { l.Last[1].Answer.Code = api.Granted },
		func(l *api.Ledger) { l.Last[1].Answer.Token = 1 }, func(l *api.Ledger) { l.Last[1].Answer.Serial = 1 },
	} {
		l := sample()
		spoil(&l)
		if Check(l) != api.ErrLedger {
			t.Errorf("case %d: Check(%v) is %d", i, l, Check(l))
		}
	}
	full := api.Ledger{Limit: 100, Next: 100}
	for i := 1; i <= api.MaxHeld+1; i++ {
		if Check(full) != api.OK {
			t.Errorf("Check with %d rows is %d", len(full.Held), Check(full))
		}
		full.Held = append(full.Held, api.Held{Token: i, Node: 1, Boot: 1, Serial: uint64(i), Stamp: 1})
	}
	if Check(full) != api.ErrLedger {
		t.Error("a ledger with 65 rows is valid")
	}
}

// step is a command with its index, and the answer that it should get.
type step struct {
	index uint64
	c     api.Cmd
	a     api.Answer
}

func walk(t *testing.T, l api.Ledger, steps []step) api.Ledger {
	t.Helper()
	for i, s := range steps {
		next, a, e := Apply(l, s.index, s.c)
		if a != s.a || e != api.OK || Check(next) != api.OK {
			t.Fatalf("step %d: the answer to %v is %v, %d", i, s.c, a, e)
		}
		l = next
	}
	return l
}

// P5.2
func TestApply(t *testing.T) {
	l, _ := New(2)
	l = walk(t, l, []step{
		{5, grantOf(1, 1, 1), api.Answer{Code: api.Granted, Token: 1, Serial: 1}},
		{6, grantOf(1, 1, 1), api.Answer{Code: api.Granted, Token: 1, Serial: 1}},
		{7, grantOf(2, 1, 1), api.Answer{Code: api.Granted, Token: 2, Serial: 2}},
		{8, grantOf(1, 1, 2), api.Answer{Code: api.Refused}},
		{9, renewOf(1, 1, 3, 1, 1), api.Answer{Code: api.Renewed}},
		{10, reclaimOf(1, 1, 5), api.Answer{Code: api.Gone}},
		{11, renewOf(2, 1, 2, 1, 1), api.Answer{Code: api.Gone}},
		{12, renewOf(1, 2, 1, 1, 1), api.Answer{Code: api.Gone}},
		{13, releaseOf(1, 2, 2, 1, 1), api.Answer{Code: api.Gone}},
		{14, releaseOf(2, 1, 3, 2, 1), api.Answer{Code: api.Gone}},
		{15, reclaimOf(1, 2, 9), api.Answer{Code: api.Gone}},
		{16, reclaimOf(1, 1, 9), api.Answer{Code: api.Freed}},
		{17, reclaimOf(1, 1, 9), api.Answer{Code: api.Gone}},
		{18, grantOf(1, 1, 9), api.Answer{Code: api.Stale}},
		{19, grantOf(1, 2, 1), api.Answer{Code: api.Stale}},
		{20, grantOf(1, 2, 2), api.Answer{Code: api.Gone}},
		{21, grantOf(1, 3, 1), api.Answer{Code: api.Granted, Token: 1, Serial: 3}},
		{22, api.Cmd{Kind: api.Noop}, api.Answer{}},
		{23, api.Cmd{Kind: api.Conf, Nodes: []int{1, 2}}, api.Answer{}},
		{24, releaseOf(2, 1, 4, 2, 2), api.Answer{Code: api.Freed}},
		{25, renewOf(2, 1, 5, 2, 2), api.Answer{Code: api.Gone}},
	})
	want := api.Ledger{
		Limit: 2, Next: 4, Held: []api.Held{{Token: 1, Node: 1, Boot: 3, Serial: 3, Stamp: 21}},
		Last: []api.Last{
			{Node: 1, Boot: 3, Seq: 1, Answer: api.Answer{Code: api.Granted, Token: 1, Serial: 3}},
			{Node: 2, Boot: 1, Seq: 5, Answer: api.Answer{Code: api.Gone}},
		},
	}
	if !reflect.DeepEqual(l, want) {
		t.Errorf("the ledger is %v, not %v", l, want)
	}
}

// P5.2: beside the Answer stands the new ledger, not the one that was.
func TestNewLedger(t *testing.T) {
	first := api.Held{Token: 1, Node: 1, Boot: 1, Serial: 1, Stamp: 5}
	renewed := first
	renewed.Stamp = 6
	granted := api.Answer{Code: api.Granted, Token: 1, Serial: 1}
	empty := api.Ledger{Limit: 2, Next: 1}
	held := api.Ledger{Limit: 2, Next: 2, Held: []api.Held{first}, Last: []api.Last{{Node: 1, Boot: 1, Seq: 1, Answer: granted}}}
	// after is held with these rows, and with the last request of node 1 being this one.
	after := func(seq uint64, code int, rows ...api.Held) api.Ledger {
		return api.Ledger{Limit: 2, Next: 2, Held: rows, Last: []api.Last{{Node: 1, Boot: 1, Seq: seq, Answer: api.Answer{Code: code}}}}
	}
	freed := held
	freed.Held = nil
	for _, x := range []struct {
		l     api.Ledger
		index uint64
		c     api.Cmd
		want  api.Ledger
		a     api.Answer
	}{
		{empty, 5, grantOf(1, 1, 1), held, granted},
		{held, 6, renewOf(1, 1, 2, 1, 1), after(2, api.Renewed, renewed), api.Answer{Code: api.Renewed}},
		{held, 6, renewOf(1, 1, 2, 2, 1), after(2, api.Gone, first), api.Answer{Code: api.Gone}},
		{held, 6, releaseOf(1, 1, 2, 1, 1), after(2, api.Freed), api.Answer{Code: api.Freed}},
		{held, 6, releaseOf(1, 1, 2, 1, 2), after(2, api.Gone, first), api.Answer{Code: api.Gone}},
		{held, 6, reclaimOf(1, 1, 5), freed, api.Answer{Code: api.Freed}},
		{held, 6, reclaimOf(1, 1, 6), held, api.Answer{Code: api.Gone}},
	} {
		l, a, e := Apply(x.l, x.index, x.c)
		same := l.Limit == x.want.Limit && l.Next == x.want.Next && slices.Equal(l.Held, x.want.Held) && slices.Equal(l.Last, x.want.Last)
		if !same || a != x.a || e != api.OK {
			t.Errorf("%v makes of the ledger %v, %v, %d, not %v, %v", x.c, l, a, e, x.want, x.a)
		}
	}
}

// P5.2: a command that the table leaves alone leaves the ledger alone.
func TestUnchanged(t *testing.T) {
	for _, c := range []api.Cmd{
		{Kind: api.Noop}, {Kind: api.Conf, Nodes: []int{4}}, reclaimOf(2, 5, 6), reclaimOf(2, 4, 7), reclaimOf(3, 5, 7),
		grantOf(1, 3, 4), grantOf(1, 3, 3), grantOf(1, 2, 99), renewOf(1, 3, 4, 2, 5),
	} {
		if l, _, e := Apply(sample(), 100, c); !reflect.DeepEqual(l, sample()) || e != api.OK {
			t.Errorf("%v makes of the ledger %v, %d", c, l, e)
		}
	}
	if _, a, _ := Apply(sample(), 100, renewOf(1, 3, 4, 2, 5)); a != (api.Answer{Code: api.Granted, Token: 9, Serial: 5}) {
		t.Errorf("a request of the same Seq is answered %v", a)
	}
}

// P5.2: when no token is granted.
func TestRefused(t *testing.T) {
	l, _ := New(api.MaxTokens)
	for i := range uint64(api.MaxHeld) {
		l = walk(t, l, []step{{1, grantOf(1, 1, i+1), api.Answer{Code: api.Granted, Token: int(i) + 1, Serial: i + 1}}})
	}
	walk(t, l, []step{{9, grantOf(2, 1, 1), api.Answer{Code: api.Refused}}})
	l, _ = New(3)
	l.Next = 1<<64 - 2
	l = walk(t, l, []step{{1, grantOf(1, 1, 1), api.Answer{Code: api.Granted, Token: 1, Serial: 1<<64 - 2}}})
	l = walk(t, l, []step{{2, grantOf(1, 1, 2), api.Answer{Code: api.Refused}}})
	if l.Next != 1<<64-1 || len(l.Held) != 1 || len(l.Last) != 1 {
		t.Errorf("the ledger is %v", l)
	}
}

// P5.2: the errors, in their order.
func TestApplyErrors(t *testing.T) {
	bad := sample()
	bad.Next = 0
	for _, x := range []struct {
		l     api.Ledger
		index uint64
		c     api.Cmd
		want  api.Errno
	}{
		{bad, 0, api.Cmd{}, api.ErrLedger}, {api.Ledger{}, 1, api.Cmd{Kind: api.Noop}, api.ErrLedger},
		{sample(), 0, api.Cmd{}, api.ErrCmd}, {sample(), 1, grantOf(8, 1, 1), api.ErrCmd}, {sample(), 0, api.Cmd{Kind: api.Noop}, api.ErrArg},
	} {
		if l, a, e := Apply(x.l, x.index, x.c); !reflect.DeepEqual(l, api.Ledger{}) || a != (api.Answer{}) || e != x.want {
			t.Errorf("Apply(%v, %d, %v) is %v, %v, %d", x.l, x.index, x.c, l, a, e)
		}
	}
}

// P5.3
func TestQueries(t *testing.T) {
	odd := api.Ledger{Held: []api.Held{{Token: -1, Node: 9, Stamp: 1}, {Token: 4, Node: 9, Stamp: 2}, {Token: 4, Stamp: 3}}}
	if row, ok := Find(odd, 4); row != odd.Held[1] || !ok {
		t.Errorf("Find is %v, %t", row, ok)
	}
	if row, ok := Find(odd, 5); row != (api.Held{}) || ok {
		t.Errorf("Find is %v, %t", row, ok)
	}
	rows := Of(odd, 9)
	if !slices.Equal(rows, odd.Held[:2]) || len(Of(odd, 1)) != 0 {
		t.Errorf("Of is %v", rows)
	}
	rows[0].Token = 77
	if odd.Held[0].Token != -1 {
		t.Error("Of shares its argument's memory")
	}
	for _, x := range []struct{ limit, held, want int }{
		{2, 0, 2}, {2, 2, 0}, {2, 3, 0}, {65535, 3, 61}, {64, 64, 0}, {0, 0, 0}, {-5, 0, 0}, {math.MinInt, 1, 0}, {math.MaxInt, 65, 0}, {math.MaxInt, 0, 64},
	} {
		if got := Free(api.Ledger{Limit: x.limit, Held: make([]api.Held, x.held)}); got != x.want {
			t.Errorf("Free of %d with %d rows is %d", x.limit, x.held, got)
		}
	}
}

// R2: the ledger that is handed in stays as it was, and the answer shares nothing with it.
func TestOwnMemory(t *testing.T) {
	for _, c := range []api.Cmd{{Kind: api.Noop}, grantOf(3, 2, 1), renewOf(1, 3, 5, 2, 5), releaseOf(1, 3, 5, 2, 5), reclaimOf(9, 1, 2), grantOf(1, 1, 1)} {
		in := sample()
		in.Held = slices.Grow(in.Held, 5)
		in.Last = slices.Grow(in.Last, 5)
		out, _, _ := Apply(in, 50, c)
		for i := range out.Held {
			out.Held[i].Token = 77
		}
		for i := range out.Last {
			out.Last[i].Node = 77
		}
		if !reflect.DeepEqual(in, sample()) {
			t.Errorf("%v changes its argument", c)
		}
	}
}

// P5.4: at random, ledgers stay valid, commands count once, and no Serial comes twice.
func TestConsequences(t *testing.T) {
	r := rand.New(rand.NewSource(1))
	for range 50 {
		l, _ := New(1 + r.Intn(6))
		given := map[uint64]int{}
		for index := uint64(1); index < 300; index++ {
			c := api.Cmd{Kind: 1 + r.Intn(6), Node: 1 + r.Intn(3), Boot: 1 + uint64(index/100), Seq: 1 + uint64(r.Intn(40)), Token: 1 + r.Intn(6), Serial: 1 + uint64(r.Intn(40))}
			switch c.Kind {
			case api.Noop:
				c = api.Cmd{Kind: api.Noop}
			case api.Conf:
				c = api.Cmd{Kind: api.Conf, Nodes: []int{c.Node}}
			case api.Grant:
				c = grantOf(c.Node, c.Boot, c.Seq)
			case api.Reclaim:
				c = reclaimOf(c.Token, c.Serial, index)
				if row, ok := Find(l, c.Token); ok {
					c.Serial, c.Stamp = row.Serial, row.Stamp
				}
			}
			if cmd.Check(c) != api.OK {
				t.Fatalf("%v is no command", c)
			}
			next, a, e := Apply(l, index, c)
			if e != api.OK || Check(next) != api.OK {
				t.Fatalf("%v leads to %v, %d", c, next, e)
			}
			if a.Code == api.Granted && next.Next != l.Next {
				given[a.Serial]++
				if given[a.Serial] > 1 {
					t.Fatalf("serial %d is given twice", a.Serial)
				}
			}
			again, b, _ := Apply(next, index+1000, c)
			if c.Kind != api.Reclaim && (!reflect.DeepEqual(again, next) || b != a) {
				t.Fatalf("%v counts twice: %v, %v", c, a, b)
			}
			l = next
		}
	}
}
