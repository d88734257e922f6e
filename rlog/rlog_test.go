package rlog

import (
	"math"
	"math/rand"
	"reflect"
	"slices"
	"testing"

	"stopcock/api"
	"stopcock/hard"
	"stopcock/ledger"
	"stopcock/shot"
)

func picture(index, term uint64) api.Shot {
	s, _ := shot.New(2, []int{1, 3})
	s.Index, s.Term = index, term
	return s
}

func noop(term uint64) api.Entry {
	return api.Entry{Term: term, Cmd: api.Cmd{Kind: api.Noop}}
}

func conf(term uint64, l ...int) api.Entry {
	return api.Entry{Term: term, Cmd: api.Cmd{Kind: api.Conf, Nodes: l}}
}

func grant(term uint64, node int, seq uint64) api.Entry {
	return api.Entry{Term: term, Cmd: api.Cmd{Kind: api.Grant, Node: node, Boot: 1, Seq: seq}}
}

// sample is that of the document's examples.
func sample() api.Hard {
	return api.Hard{Boot: 1, Term: 9, Shot: picture(5, 2), Log: []api.Entry{noop(2), noop(3)}}
}

func bare() api.Hard { return api.Hard{Term: 2, Shot: picture(5, 2)} }

// P15.1
func TestQueries(t *testing.T) {
	if i, term := Last(sample()); i != 7 || term != 3 {
		t.Errorf("Last is %d, %d", i, term)
	}
	if i, term := Last(bare()); i != 5 || term != 2 {
		t.Errorf("Last is %d, %d", i, term)
	}
	for index, want := range map[uint64]uint64{4: 0, 5: 2, 6: 2, 7: 3, 8: 0, 0: 0, math.MaxUint64: 0} {
		if term, ok := Term(sample(), index); term != want || ok != (want != 0) {
			t.Errorf("Term(%d) is %d, %t", index, term, ok)
		}
	}
	if term, ok := Term(api.Hard{Shot: picture(0, 0)}, 0); term != 0 || !ok {
		t.Errorf("Term at 0 is %d, %t", term, ok)
	}
	for _, x := range []struct {
		index, term uint64
		want        bool
	}{{6, 4, true}, {7, 2, false}, {7, 3, true}, {6, 3, false}, {8, 3, true}, {math.MaxUint64, 2, false}, {0, math.MaxUint64, true}, {0, 0, false}} {
		if Newer(sample(), x.index, x.term) != x.want {
			t.Errorf("Newer(%d, %d) is not %t", x.index, x.term, x.want)
		}
	}
	if !Newer(bare(), 5, 2) || Newer(bare(), 4, 2) || !Newer(bare(), 1, 3) {
		t.Error("Newer without a log is wrong")
	}
}

// P15.1
func TestSlice(t *testing.T) {
	h := sample()
	h.Log = append(h.Log, conf(3, 1, 2))
	for _, x := range []struct {
		from uint64
		most int
		want []api.Entry
	}{
		{6, 9, h.Log}, {6, math.MaxInt, h.Log}, {6, 2, h.Log[:2]}, {7, 1, h.Log[1:2]}, {8, 5, h.Log[2:]}, {5, 9, nil}, {9, 9, nil}, {0, 9, nil},
		{math.MaxUint64, 9, nil}, {6, 0, nil}, {6, -1, nil}, {6, math.MinInt, nil},
	} {
		got := Slice(h, x.from, x.most)
		if len(got) != len(x.want) || len(got) > 0 && !reflect.DeepEqual(got, x.want) {
			t.Errorf("Slice(%d, %d) is %v", x.from, x.most, got)
		}
	}
	Slice(h, 8, 1)[0].Cmd.Nodes[0] = 77
	if h.Log[2].Cmd.Nodes[0] != 1 {
		t.Error("Slice shares its argument's memory")
	}
}

// P15.2
func TestConf(t *testing.T) {
	h := sample()
	h.Log = append(h.Log, conf(3, 1, 2), noop(4), conf(4, 2))
	for _, x := range []struct {
		upTo, index uint64
		want        []int
	}{{0, 5, []int{1, 3}}, {5, 5, []int{1, 3}}, {7, 5, []int{1, 3}}, {8, 8, []int{1, 2}}, {9, 8, []int{1, 2}}, {10, 10, []int{2}}, {math.MaxUint64, 10, []int{2}}} {
		index, l := Conf(h, x.upTo)
		if index != x.index || !slices.Equal(l, x.want) {
			t.Errorf("Conf(%d) is %d, %v", x.upTo, index, l)
		}
		l[0] = 77
	}
	if h.Shot.Nodes[0] != 1 || h.Log[2].Cmd.Nodes[0] != 1 {
		t.Error("Conf shares its argument's memory")
	}
}

func cut(index uint64) api.Rec { return api.Rec{Kind: api.Cut, Index: index} }

func added(index uint64, x api.Entry) api.Rec {
	return api.Rec{Kind: api.Added, Index: index, Entry: x}
}

// P15.3
func TestMerge(t *testing.T) {
	one := func(term uint64) []api.Entry { return []api.Entry{noop(term)} }
	for i, x := range []struct {
		index, term, commit uint64
		l                   []api.Entry
		kind                int
		recs                []api.Rec
	}{
		// The document's examples.
		{6, 2, 0, one(3), Fits, nil}, {6, 2, 0, one(4), Fits, []api.Rec{cut(7), added(7, noop(4))}}, {6, 2, 7, one(4), Breaks, nil}, {7, 2, 0, one(4), Lacks, nil},
		// Where there is no such entry.
		{8, 3, 0, one(4), Lacks, nil}, {8, 0, 0, nil, Lacks, nil}, {5, 1, 0, nil, Lacks, nil}, {math.MaxUint64, 3, 0, one(3), Lacks, nil}, {6, 3, 0, nil, Lacks, nil},
		// Before the snapshot.
		{3, 0, 9, one(1), Fits, nil}, {3, 77, 9, append(one(1), noop(1)), Fits, nil}, {4, 1, 5, []api.Entry{noop(8), noop(2), noop(3), noop(3)}, Fits, []api.Rec{added(8, noop(3))}},
		{4, 1, 5, []api.Entry{noop(2), noop(3)}, Fits, []api.Rec{cut(6), added(6, noop(3))}}, {4, 1, 6, []api.Entry{noop(2), noop(3)}, Breaks, nil}, {0, 0, 0, nil, Fits, nil},
		{0, 0, 0, []api.Entry{noop(1), noop(1), noop(1), noop(1), noop(1), noop(2), noop(3), noop(9)}, Fits, []api.Rec{added(8, noop(9))}},
		// Behind the last one, and in between.
		{7, 3, 0, nil, Fits, nil}, {7, 3, 99, []api.Entry{noop(3), conf(9, 1)}, Fits, []api.Rec{added(8, noop(3)), added(9, conf(9, 1))}},
		{5, 2, 6, []api.Entry{noop(2), noop(5), noop(6)}, Fits, []api.Rec{cut(7), added(7, noop(5)), added(8, noop(6))}},
		{5, 2, 0, []api.Entry{noop(2), noop(3), noop(6)}, Fits, []api.Rec{added(8, noop(6))}}, {5, 2, 0, one(2), Fits, nil},
		// What hard.Do rejects.
		{7, 3, 0, one(2), Breaks, nil}, {7, 3, 0, one(10), Breaks, nil}, {7, 3, 0, []api.Entry{noop(5), noop(4)}, Breaks, nil}, {7, 3, 0, []api.Entry{{Term: 4}}, Breaks, nil},
		{5, 2, 0, one(1), Breaks, nil}, {6, 2, 0, one(0), Breaks, nil},
	} {
		h := sample()
		kind, recs := Merge(h, x.index, x.term, x.commit, x.l)
		if kind != x.kind || len(recs) != len(x.recs) || len(recs) > 0 && !reflect.DeepEqual(recs, x.recs) || !reflect.DeepEqual(h, sample()) {
			t.Errorf("case %d: Merge is %d, %v", i, kind, recs)
		}
	}
	l := []api.Entry{conf(9, 1, 2)}
	_, recs := Merge(sample(), 7, 3, 0, l)
	recs[0].Entry.Cmd.Nodes[0] = 77
	if l[0].Cmd.Nodes[0] != 1 {
		t.Error("Merge shares its argument's memory")
	}
}

// The numbers of the results.
func TestResults(t *testing.T) {
	if Fits != 1 || Lacks != 2 || Breaks != 3 {
		t.Error("the results have other numbers")
	}
}

// P15.5
func TestMerged(t *testing.T) {
	r := rand.New(rand.NewSource(1))
	some := func(low uint64) []api.Entry {
		var l []api.Entry
		for range r.Intn(6) {
			low += uint64(r.Intn(5) / 3)
			l = append(l, noop(low))
		}
		return l
	}
	fits := 0
	for range 20000 {
		h := api.Hard{Term: 9, Shot: picture(5, 2), Log: some(2)}
		index, term, commit := uint64(2+r.Intn(9)), uint64(1+r.Intn(4)), uint64(r.Intn(10))
		l := some(term)
		kind, recs := Merge(h, index, term, commit, l)
		if kind != Fits {
			if len(recs) > 0 {
				t.Fatalf("%d comes with %v", kind, recs)
			}
			continue
		}
		fits++
		next := h
		for _, rec := range recs {
			var e api.Errno
			if next, e = hard.Do(next, rec); e != api.OK {
				t.Fatalf("%v of %v is rejected", rec, recs)
			}
		}
		for i, x := range l {
			place := index + 1 + uint64(i)
			if got, _ := Term(next, place); got != x.Term && place > 5 {
				t.Fatalf("%v after (%d, %d) makes of %v %v", l, index, term, h, next)
			}
		}
		for place := uint64(5); place <= commit; place++ {
			a, had := Term(h, place)
			if b, _ := Term(next, place); had && a != b {
				t.Fatalf("the entry at %d is committed, and goes", place)
			}
		}
		if kind, recs := Merge(next, index, term, commit, l); kind != Fits || len(recs) != 0 {
			t.Fatalf("merging again is %d, %v", kind, recs)
		}
	}
	if fits < 3000 {
		t.Errorf("only %d merges fit", fits)
	}
}

// P15.4
func TestAt(t *testing.T) {
	h := sample()
	h.Log = append(h.Log, grant(3, 1, 1), conf(4, 1, 2, 3), grant(5, 2, 1), grant(5, 1, 1))
	want := h.Shot
	for index := uint64(5); index <= 11; index++ {
		if index > 5 {
			x := h.Log[index-6]
			want.Index, want.Term = index, x.Term
			if x.Cmd.Kind == api.Conf {
				want.Nodes = x.Cmd.Nodes
			}
			want.Ledger, _, _ = ledger.Apply(want.Ledger, index, x.Cmd)
		}
		got, e := At(h, index)
		if e != api.OK || shot.Check(got) != api.OK || !equal(got, want) {
			t.Fatalf("At(%d) is %v, %d, not %v", index, got, e, want)
		}
		got.Nodes[0] = 77
		if len(got.Ledger.Held) > 0 {
			got.Ledger.Held[0].Node = 77
		}
	}
	if got, _ := At(h, 11); len(got.Ledger.Held) != 2 || got.Ledger.Held[0] != (api.Held{Token: 1, Node: 1, Boot: 1, Serial: 1, Stamp: 8}) || got.Nodes[0] != 1 {
		t.Errorf("At(11) is %v", got)
	}
	for _, index := range []uint64{0, 4, 12, math.MaxUint64} {
		if s, e := At(h, index); !reflect.DeepEqual(s, api.Shot{}) || e != api.ErrNone {
			t.Errorf("At(%d) is %v, %d", index, s, e)
		}
	}
}

func equal(a, b api.Shot) bool {
	return a.Index == b.Index && a.Term == b.Term && slices.Equal(a.Nodes, b.Nodes) && a.Ledger.Limit == b.Ledger.Limit &&
		a.Ledger.Next == b.Ledger.Next && slices.Equal(a.Ledger.Held, b.Ledger.Held) && slices.Equal(a.Ledger.Last, b.Ledger.Last)
}

// What is answered for a state that is not valid.
func TestInvalid(t *testing.T) {
	h := sample()
	h.Term = 1
	for _, h := range []api.Hard{h, {}} {
		if i, term := Last(h); i != 0 || term != 0 {
			t.Errorf("Last is %d, %d", i, term)
		}
		if term, ok := Term(h, 5); term != 0 || ok {
			t.Errorf("Term is %d, %t", term, ok)
		}
		if Newer(h, 99, 99) || len(Slice(h, 6, 9)) != 0 {
			t.Error("Newer or Slice is wrong")
		}
		if i, l := Conf(h, 9); i != 0 || len(l) != 0 {
			t.Errorf("Conf is %d, %v", i, l)
		}
		for index := range uint64(9) {
			if kind, recs := Merge(h, index, 2, 0, []api.Entry{noop(9)}); kind != Breaks || len(recs) != 0 {
				t.Errorf("Merge is %d, %v", kind, recs)
			}
		}
		if s, e := At(h, 5); !reflect.DeepEqual(s, api.Shot{}) || e != api.ErrRec {
			t.Errorf("At is %v, %d", s, e)
		}
	}
}
