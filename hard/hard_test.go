package hard

import (
	"math"
	"math/rand"
	"reflect"
	"strings"
	"testing"

	"stopcock/api"
	"stopcock/shot"
	"stopcock/values"
)

func picture(index, term uint64) api.Shot {
	s, _ := shot.New(2, []int{1, 3})
	s.Index, s.Term = index, term
	return s
}

func noop(term uint64) api.Entry {
	return api.Entry{Term: term, Cmd: api.Cmd{Kind: api.Noop}}
}

func conf(term uint64) api.Entry {
	return api.Entry{Term: term, Cmd: api.Cmd{Kind: api.Conf, Nodes: []int{1, 2}}}
}

// sample has a snapshot at index 5, and three entries.
func sample() api.Hard {
	return api.Hard{Boot: 3, Term: 6, Vote: 2, Shot: picture(5, 2), Log: []api.Entry{noop(2), conf(3), noop(5)}}
}

func began(boot uint64) api.Rec { return api.Rec{Kind: api.Began, Boot: boot} }

func voted(term uint64, vote int) api.Rec { return api.Rec{Kind: api.Voted, Term: term, Vote: vote} }

func added(index uint64, x api.Entry) api.Rec {
	return api.Rec{Kind: api.Added, Index: index, Entry: x}
}

func cut(index uint64) api.Rec { return api.Rec{Kind: api.Cut, Index: index} }

func shots(index, term uint64) api.Rec { return api.Rec{Kind: api.Shots, Shot: picture(index, term)} }

// P13.1
func TestCheck(t *testing.T) {
	fresh := api.Hard{Shot: picture(0, 0)}
	if Check(sample()) != api.OK || Check(fresh) != api.OK || Check(api.Hard{}) != api.ErrRec {
		t.Error("Check is wrong")
	}
	for i, change := range []func(*api.Hard){
		func(h *api.Hard) { h.Boot = 1 << 62 }, func(h *api.Hard) { h.Boot = 0 }, func(h *api.Hard) { h.Term = 5 }, func(h *api.Hard) { h.Term = math.MaxUint64 },
		func(h *api.Hard) { h.Vote = 0 }, func(h *api.Hard) { h.Vote = 7 }, func(h *api.Hard) { h.Log = nil; h.Term = 2 }, func(h *api.Hard) { h.Shot = picture(1<<62-3, 2) },
	} {
		h := sample()
		change(&h)
		if Check(h) != api.OK {
			t.Errorf("case %d: Check(%v) is %d", i, h, Check(h))
		}
	}
	for i, spoil := range []func(*api.Hard){
		func(h *api.Hard) { h.Boot = 1<<62 + 1 }, func(h *api.Hard) { h.Term = 4 }, func(h *api.Hard) { h.Vote = 8 }, func(h *api.Hard) { h.Vote = -1 },
		func(h *api.Hard) { h.Shot.Nodes = nil }, func(h *api.Hard) { h.Shot = picture(1<<62-2, 2) }, func(h *api.Hard) { h.Shot = picture(math.MaxUint64, 2) },
		func(h *api.Hard) { h.Shot = picture(1<<62+1, 2); h.Log = nil }, func(h *api.Hard) { h.Log[1].Term = 1 }, func(h *api.Hard) { h.Log[0].Term = 1 },
		func(h *api.Hard) { h.Log[1].Term = 6 }, func(h *api.Hard) { h.Log[2].Cmd.Kind = 0 }, func(h *api.Hard) { h.Log = nil; h.Term = 1 },
		func(h *api.Hard) { *h = api.Hard{Shot: picture(0, 0), Vote: 1} }, func(h *api.Hard) { *h = api.Hard{Shot: picture(0, 0), Log: []api.Entry{noop(0)}} },
	} {
		h := sample()
		spoil(&h)
		if Check(h) != api.ErrRec {
			t.Errorf("case %d: Check(%v) is %d", i, h, Check(h))
		}
		if l, e := Base(h); l != nil || e != api.ErrRec {
			t.Errorf("case %d: Base is %v, %d", i, l, e)
		}
		if got, e := Do(h, began(1<<61)); !reflect.DeepEqual(got, api.Hard{}) || e != api.ErrRec {
			t.Errorf("case %d: Do is %v, %d", i, got, e)
		}
	}
}

// P13.2: what each Kind does.
func TestDo(t *testing.T) {
	for i, x := range []struct {
		r      api.Rec
		change func(*api.Hard)
	}{
		{began(4), func(h *api.Hard) { h.Boot = 4 }}, {began(1 << 62), func(h *api.Hard) { h.Boot = 1 << 62 }},
		{voted(6, 2), func(h *api.Hard) {}}, {voted(7, 1), func(h *api.Hard) { h.Term, h.Vote = 7, 1 }}, {voted(math.MaxUint64, 0), func(h *api.Hard) { h.Term, h.Vote = math.MaxUint64, 0 }},
		{added(9, conf(5)), func(h *api.Hard) { h.Log = append(h.Log, conf(5)) }}, {added(9, noop(6)), func(h *api.Hard) { h.Log = append(h.Log, noop(6)) }},
		{cut(6), func(h *api.Hard) { h.Log = nil }}, {cut(8), func(h *api.Hard) { h.Log = h.Log[:2] }}, {cut(9), func(h *api.Hard) {}},
		{shots(5, 2), func(h *api.Hard) { h.Shot = picture(5, 2) }}, {shots(5, 3), func(h *api.Hard) { h.Shot = picture(5, 3); h.Log = nil }},
		{shots(6, 2), func(h *api.Hard) { h.Shot = picture(6, 2); h.Log = h.Log[1:] }}, {shots(7, 3), func(h *api.Hard) { h.Shot = picture(7, 3); h.Log = h.Log[2:] }},
		{shots(7, 4), func(h *api.Hard) { h.Shot = picture(7, 4); h.Log = nil }}, {shots(8, 5), func(h *api.Hard) { h.Shot = picture(8, 5); h.Log = nil }},
		{shots(9, 5), func(h *api.Hard) { h.Shot = picture(9, 5); h.Log = nil }}, {shots(1<<62, 6), func(h *api.Hard) { h.Shot = picture(1<<62, 6); h.Log = nil }},
	} {
		h, want := sample(), sample()
		x.change(&want)
		got, e := Do(h, x.r)
		if len(got.Log) == 0 {
			got.Log = nil
		}
		if e != api.OK || !reflect.DeepEqual(got, want) || !reflect.DeepEqual(h, sample()) {
			t.Errorf("case %d: Do(%v) is %v, %d", i, x.r, got, e)
		}
	}
	open := sample()
	open.Vote = 0
	if got, e := Do(open, voted(6, 7)); got.Vote != 7 || e != api.OK {
		t.Errorf("a first vote: %v, %d", got, e)
	}
}

// P13.2: what is rejected.
func TestDoErrors(t *testing.T) {
	bad := []api.Rec{
		began(3), began(2), began(1<<62 + 1), voted(5, 2), voted(6, 1), voted(6, 0), voted(5, 0),
		added(8, noop(6)), added(10, noop(6)), added(9, noop(4)), added(9, noop(7)), cut(5), cut(4), cut(10), cut(math.MaxUint64),
		shots(4, 2), shots(0, 0), shots(9, 7), shots(5, 7), shots(1<<62+1, 6),
	}
	for _, r := range append(bad, wrong()...) {
		if got, e := Do(sample(), r); !reflect.DeepEqual(got, api.Hard{}) || e != api.ErrRec {
			t.Errorf("Do(%v) is %v, %d", r, got, e)
		}
	}
	full := api.Hard{Term: 1, Shot: picture(1<<62, 1)}
	if _, e := Do(full, added(1<<62+1, noop(1))); e != api.ErrRec {
		t.Errorf("an entry too far is %d", e)
	}
}

// wrong returns records that are not valid.
func wrong() []api.Rec {
	l := []api.Rec{
		{}, {Kind: 6, Boot: 9}, {Kind: -1}, {Kind: 257, Boot: 9}, began(0), voted(0, 1), voted(9, 8), voted(9, -1), added(0, noop(6)), added(9, noop(0)),
		added(9, api.Entry{Term: 6}), added(9, api.Entry{Term: 6, Cmd: api.Cmd{Kind: api.Grant, Node: 8, Boot: 1, Seq: 1}}), cut(0), {Kind: api.Shots},
		{Kind: api.Shots, Shot: picture(9, 0)},
	}
	for kind, r := range []api.Rec{began(9), voted(9, 1), added(9, noop(6)), cut(6), shots(9, 6)} {
		for field, set := range []func(*api.Rec){
			func(r *api.Rec) { r.Boot = 9 }, func(r *api.Rec) { r.Term = 9 }, func(r *api.Rec) { r.Vote = 1 }, func(r *api.Rec) { r.Entry = noop(6) },
			func(r *api.Rec) { r.Index = 9 }, func(r *api.Rec) { r.Shot = picture(9, 6) },
		} {
			uses := [][]int{{0}, {1, 2}, {3, 4}, {4}, {5}}[kind]
			x := r
			set(&x)
			if !contains(uses, field) {
				l = append(l, x)
			}
		}
	}
	return l
}

func contains(l []int, n int) bool {
	for _, m := range l {
		if m == n {
			return true
		}
	}
	return false
}

// again applies the records of Base to the state that Base begins with.
func again(t *testing.T, h api.Hard) api.Hard {
	t.Helper()
	l, e := Base(h)
	if e != api.OK {
		t.Fatalf("Base(%v) is %d", h, e)
	}
	got := api.Hard{Shot: values.CopyShot(h.Shot), Term: h.Shot.Term}
	for _, r := range l {
		if got, e = Do(got, r); e != api.OK {
			t.Fatalf("Base(%v): %v is rejected", h, r)
		}
	}
	return got
}

// P13.3, P13.5
func TestBase(t *testing.T) {
	fresh := api.Hard{Shot: picture(0, 0)}
	if l, e := Base(fresh); len(l) != 0 || e != api.OK {
		t.Errorf("Base of a fresh state is %v, %d", l, e)
	}
	l, _ := Base(sample())
	want := []api.Rec{began(3), voted(6, 2), added(6, noop(2)), added(7, conf(3)), added(8, noop(5))}
	if !reflect.DeepEqual(l, want) {
		t.Errorf("Base is %v", l)
	}
	for _, h := range []api.Hard{fresh, sample(), {Shot: picture(5, 2), Term: 2}, {Shot: picture(5, 2), Term: 2, Vote: 1, Boot: 1}} {
		if got := again(t, h); !reflect.DeepEqual(got, h) {
			t.Errorf("Base of %v makes %v", h, got)
		}
	}
	h := sample()
	l, _ = Base(h)
	l[3].Entry.Cmd.Nodes[0] = 77
	if !reflect.DeepEqual(h, sample()) {
		t.Error("Base shares its argument's memory")
	}
}

// good returns encodings, with the records that they are.
func good() map[string]api.Rec {
	return map[string]api.Rec{
		"\x01\x01\x01": began(1), "\x02\x01\x01\x00": voted(1, 0), "\x03\x01\x01\x01\x01\x01\x01": added(1, noop(1)), "\x04\x01\x01": cut(1),
		"\x01\x01\x03": began(3), "\x02\x01\x05\x01\x07": voted(5, 7), "\x02\x02\x01\x00\x00": voted(256, 0),
		"\x03\x01\x09\x01\x05\x01\x01":                         added(9, noop(5)),
		"\x03\x01\x09\x01\x05\x01\x02\x01\x02\x01\x01\x01\x02": added(9, conf(5)),
		"\x04\x01\x06": cut(6), "\x04\x08" + strings.Repeat("\xff", 8): cut(math.MaxUint64),
		"\x05\x53\x01\x06\x01\x02\x01\x02\x01\x01\x01\x03\x01\x02\x01\x01\x00\x00": shots(6, 2),
		"\x05\x53\x00\x00\x01\x02\x01\x01\x01\x03\x01\x02\x01\x01\x00\x00":         shots(0, 0),
	}
}

// P13.4, P13.5
func TestEncode(t *testing.T) {
	for s, r := range good() {
		if got, e := Encode(r); got != s || e != api.OK {
			t.Errorf("Encode(%v) is %x, %d", r, got, e)
		}
		if got, e := Decode(s); !reflect.DeepEqual(got, r) || e != api.OK {
			t.Errorf("Decode(%x) is %v, %d", s, got, e)
		}
		for k := range s {
			if got, e := Decode(s[:k]); !reflect.DeepEqual(got, api.Rec{}) || e != api.ErrShort {
				t.Errorf("Decode(%x) is %v, %d", s[:k], got, e)
			}
		}
		if got, e := Decode(s + "\x00"); !reflect.DeepEqual(got, api.Rec{}) || e != api.ErrForm {
			t.Errorf("Decode with a byte more is %v, %d", got, e)
		}
	}
	for _, r := range wrong() {
		if s, e := Encode(r); s != "" || e != api.ErrRec {
			t.Errorf("Encode(%v) is %x, %d", r, s, e)
		}
	}
}

// P13.4
func TestDecodeErrors(t *testing.T) {
	for s, want := range map[string]api.Errno{
		"": api.ErrShort, "\x00": api.ErrForm, "\x06": api.ErrForm, "\xff": api.ErrForm, "\x01\x09": api.ErrForm, "\x01\x01\x00": api.ErrForm, "\x01\x00": api.ErrRec,
		"\x02\x01\x05\x01\x08": api.ErrRec, "\x02\x01\x05\x02\xff\xff": api.ErrRec, "\x02\x01\x05\x03\x01\x00\x00": api.ErrForm, "\x02\x00\x03\x01\x00\x00": api.ErrForm,
		"\x02\x00\x00": api.ErrRec, "\x02\x00\x00\x00": api.ErrForm, "\x04\x00": api.ErrRec,
		"\x03\x00\x01\x05\x01\x01": api.ErrRec, "\x03\x01\x09\x00\x01\x01": api.ErrRec, "\x03\x01\x09\x01\x05\x01\x07": api.ErrForm, "\x03\x01\x09\x01\x05\x01\x03\x01": api.ErrShort,
		"\x03\x01\x09\x01\x05\x01\x03\x01\x09\x01\x01\x01\x01": api.ErrRec, "\x03\x01\x09\x01\x05\x01\x03\x01\x09\x01\x01\x01\x01\x00": api.ErrForm, "\x03\x01\x09\x01\x05\x01\x02\x00": api.ErrRec,
		"\x05": api.ErrShort, "\x05\x54": api.ErrForm, "\x05\x53\x01\x06\x00\x01\x01\x01\x01\x01\x02\x01\x01\x00\x00": api.ErrRec,
		"\x05\x53\x01\x06\x00\x01\x01\x01\x01\x01\x02\x01\x01\x00\x00\x00": api.ErrForm,
		"\x07" + strings.Repeat("a", 7999):                                 api.ErrForm, "\x07" + strings.Repeat("a", 8000): api.ErrLong,
	} {
		if r, e := Decode(s); !reflect.DeepEqual(r, api.Rec{}) || e != want {
			t.Errorf("Decode(%x) is %v, %d, not %d", s, r, e, want)
		}
	}
}

// P13.5: what Decode accepts, Encode returns; Boot and Term never decrease, and a vote stays.
func TestConsequences(t *testing.T) {
	r := rand.New(rand.NewSource(1))
	for range 200 {
		h := api.Hard{Shot: picture(0, 0)}
		for range 60 {
			at := last(h)
			rec := []api.Rec{
				began(uint64(r.Intn(30))), voted(h.Term+uint64(r.Intn(3))-1, r.Intn(9)), added(at+uint64(r.Intn(3)), noop(h.Term)), added(at+1, noop(uint64(r.Intn(9)))),
				added(at+1, conf(h.Term)), cut(at - uint64(r.Intn(4))), shots(at-uint64(r.Intn(4)), h.Term), shots(at+1, h.Term),
			}[r.Intn(8)]
			next, e := Do(h, rec)
			if e != api.OK {
				continue
			}
			if next.Boot < h.Boot || next.Term < h.Term || next.Term == h.Term && h.Vote != 0 && next.Vote != h.Vote || Check(next) != api.OK {
				t.Fatalf("%v makes of %v %v", rec, h, next)
			}
			if got := again(t, next); len(got.Log)+len(next.Log) > 0 && !reflect.DeepEqual(got, next) {
				t.Fatalf("Base of %v makes %v", next, got)
			}
			s, _ := Encode(rec)
			if got, e := Decode(s); !reflect.DeepEqual(got, rec) || e != api.OK {
				t.Fatalf("Decode after Encode of %v is %v, %d", rec, got, e)
			}
			b := []byte(s)
			b[r.Intn(len(b))] = byte(r.Intn(9))
			if got, e := Decode(string(b)); e == api.OK {
				if s, e := Encode(got); s != string(b) || e != api.OK {
					t.Fatalf("Encode after Decode(%x) is %x, %d", b, s, e)
				}
			}
			h = next
		}
	}
}

// R2
func TestOwnMemory(t *testing.T) {
	h := sample()
	rec := added(9, conf(6))
	got, _ := Do(h, rec)
	rec.Entry.Cmd.Nodes[0] = 77
	h.Log[1].Cmd.Nodes[0] = 77
	h.Shot.Nodes[0] = 77
	if got.Log[3].Cmd.Nodes[0] != 1 || got.Log[1].Cmd.Nodes[0] != 1 || got.Shot.Nodes[0] != 1 {
		t.Error("Do shares its arguments' memory")
	}
	rec = shots(9, 6)
	got, _ = Do(sample(), rec)
	rec.Shot.Nodes[0] = 77
	if got.Shot.Nodes[0] != 1 {
		t.Error("Do shares its record's snapshot")
	}
}
