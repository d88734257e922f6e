package msg

import (
	"bytes"
	"math"
	"math/rand"
	"reflect"
	"testing"

	"stopcock/api"
	"stopcock/frame"
	"stopcock/shot"
)

func noop(term uint64) api.Entry {
	return api.Entry{Term: term, Cmd: api.Cmd{Kind: api.Noop}}
}

func grant(node int) api.Entry {
	return api.Entry{Cmd: api.Cmd{Kind: api.Grant, Node: node, Boot: 1, Seq: 2}}
}

func portrait() api.Shot {
	s, _ := shot.New(2, []int{1, 3})
	s.Index, s.Term = 9, 4
	return s
}

// good returns valid messages of all Kinds, in order, with the bodies that they have.
func good() ([]api.Msg, []string) {
	return []api.Msg{
		{Kind: api.Ask, From: 1, To: 7, Term: 5, Index: 1<<64 - 1, LogTerm: 5},
		{Kind: api.Ask, From: 1, To: 2, Term: 1},
		{Kind: api.Vote, From: 1, To: 2, Term: 5, Flag: true},
		{Kind: api.Vote, From: 1, To: 2, Term: 5},
		{Kind: api.Feed, From: 2, To: 3, Term: 5, Index: 7, LogTerm: 3, Commit: 1<<64 - 1, Entries: []api.Entry{noop(3), {Term: 5, Cmd: api.Cmd{Kind: api.Conf, Nodes: []int{1, 2}}}}},
		{Kind: api.Feed, From: 2, To: 3, Term: 5},
		{Kind: api.Fed, From: 3, To: 2, Term: 5, Flag: true, Index: 1<<64 - 1},
		{Kind: api.Fed, From: 3, To: 2, Term: 5},
		{Kind: api.Ship, From: 3, To: 2, Term: 4, Shot: portrait()},
		{Kind: api.Put, From: 3, To: 2, Entries: []api.Entry{grant(3)}},
	}, []string{
		"\x01\x01\x07\x01\x05\x08\xff\xff\xff\xff\xff\xff\xff\xff\x01\x05",
		"\x01\x01\x02\x01\x01\x00\x00",
		"\x02\x01\x02\x01\x05\x01",
		"\x02\x01\x02\x01\x05\x00",
		"\x03\x02\x03\x01\x05\x01\x07\x01\x03\x08\xff\xff\xff\xff\xff\xff\xff\xff\x01\x02\x01\x03\x01\x01\x01\x05\x01\x02\x01\x02\x01\x01\x01\x02",
		"\x03\x02\x03\x01\x05\x00\x00\x00\x00",
		"\x04\x03\x02\x01\x05\x01\x08\xff\xff\xff\xff\xff\xff\xff\xff",
		"\x04\x03\x02\x01\x05\x00\x00",
		"\x05\x03\x02\x01\x04\x53\x01\x09\x01\x04\x01\x02\x01\x01\x01\x03\x01\x02\x01\x01\x00\x00",
		"\x06\x03\x02\x01\x01\x00\x01\x03\x01\x03\x01\x01\x01\x02",
	}
}

// P8.1: a field that is not of the Kind must be zero, and none is of another one.
func TestCheckFields(t *testing.T) {
	msgs, _ := good()
	for i, m := range msgs {
		if Check(m) != api.OK {
			t.Errorf("message %d: Check is %d", i, Check(m))
		}
		for j, spoil := range []func(*api.Msg){
			func(m *api.Msg) { m.Kind = 0 }, func(m *api.Msg) { m.Kind = 7 }, func(m *api.Msg) { m.Kind = math.MinInt }, func(m *api.Msg) { m.Kind += 256 },
			func(m *api.Msg) { m.From = 0 }, func(m *api.Msg) { m.From = 8 }, func(m *api.Msg) { m.To = 0 }, func(m *api.Msg) { m.To = -1 }, func(m *api.Msg) { m.To = m.From },
		} {
			x := m
			spoil(&x)
			if b, e := Encode(x); Check(x) != api.ErrMsg || b != nil || e != api.ErrMsg {
				t.Errorf("message %d, case %d: Check is %d, and Encode %x, %d", i, j, Check(x), b, e)
			}
		}
		has := map[int]string{api.Ask: "tgx", api.Vote: "tf", api.Feed: "tgxce", api.Fed: "tfg", api.Ship: "ts", api.Put: "e"}[m.Kind]
		for f, set := range map[string]func(*api.Msg){
			"t": func(m *api.Msg) { m.Term = 9 }, "f": func(m *api.Msg) { m.Flag = true }, "g": func(m *api.Msg) { m.Index = 9 }, "x": func(m *api.Msg) { m.LogTerm = 1 },
			"c": func(m *api.Msg) { m.Commit = 1 }, "e": func(m *api.Msg) { m.Entries = []api.Entry{grant(m.From)} }, "s": func(m *api.Msg) { m.Shot = portrait() },
		} {
			x := m
			set(&x)
			if !bytes.Contains([]byte(has), []byte(f)) && Check(x) != api.ErrMsg {
				t.Errorf("message %d with a field %s that it has not: Check is %d", i, f, Check(x))
			}
		}
		m.Entries = append([]api.Entry{}, m.Entries...)
		if len(m.Shot.Nodes) == 0 {
			m.Shot.Nodes, m.Shot.Ledger.Held = []int{}, []api.Held{}
		}
		if Check(m) != api.OK {
			t.Errorf("message %d with empty lists: Check is %d", i, Check(m))
		}
	}
}

// P8.1: what the fields of a Kind may hold.
func TestCheckValues(t *testing.T) {
	feed := api.Msg{Kind: api.Feed, From: 1, To: 2, Term: 5, Index: 7, LogTerm: 3}
	with := func(m api.Msg, l ...api.Entry) api.Msg {
		m.Entries = l
		return m
	}
	put := api.Msg{Kind: api.Put, From: 1, To: 2}
	stamp := portrait()
	stamp.Index, stamp.Term = 0, 0
	first := portrait()
	first.Index, first.Term = 1, 1
	wide := feed
	wide.Index = 1 << 62
	wider := feed
	wider.Index = 1<<62 + 1
	for i, x := range []struct {
		m    api.Msg
		good bool
	}{
		{with(feed, noop(3), noop(3), noop(4), noop(5)), true}, {with(feed, noop(3), noop(3), noop(4), noop(5), noop(5)), false},
		{with(feed, noop(2)), false}, {with(feed, noop(6)), false}, {with(feed, noop(4), noop(3)), false}, {with(feed, api.Entry{Term: 4}), false},
		{with(feed, api.Entry{Cmd: api.Cmd{Kind: api.Noop}}), false}, {with(api.Msg{Kind: api.Feed, From: 1, To: 2, Term: 5}, noop(0)), false},
		{wide, true}, {wider, false},
		{api.Msg{Kind: api.Ask, From: 1, To: 2, Term: 1, Index: 1, LogTerm: 1}, true}, {with(api.Msg{Kind: api.Feed, From: 1, To: 2, Term: 1}, noop(1)), true},
		{api.Msg{Kind: api.Vote, From: 1, To: 2, Term: 1}, true}, {api.Msg{Kind: api.Fed, From: 1, To: 2, Term: 1}, true}, {api.Msg{Kind: api.Ship, From: 1, To: 2, Term: 1, Shot: first}, true},
		{api.Msg{Kind: api.Ask, From: 1, To: 2, Index: 1, LogTerm: 1}, false}, {api.Msg{Kind: api.Ask, From: 1, To: 2, Term: 1, Index: 1}, false},
		{api.Msg{Kind: api.Ask, From: 1, To: 2, Term: 1, LogTerm: 1}, false}, {api.Msg{Kind: api.Ask, From: 1, To: 2, Term: 1, Index: 1, LogTerm: 2}, false},
		{api.Msg{Kind: api.Feed, From: 1, To: 2, Term: 1, Index: 1}, false}, {api.Msg{Kind: api.Feed, From: 1, To: 2, Term: 1, Index: 1, LogTerm: 2}, false},
		{api.Msg{Kind: api.Vote, From: 1, To: 2}, false}, {api.Msg{Kind: api.Fed, From: 1, To: 2}, false}, {api.Msg{Kind: api.Feed, From: 1, To: 2}, false},
		{api.Msg{Kind: api.Ship, From: 1, To: 2, Shot: portrait()}, false}, {api.Msg{Kind: api.Ship, From: 1, To: 2, Term: 3, Shot: portrait()}, false},
		{api.Msg{Kind: api.Ship, From: 1, To: 2, Term: 4}, false}, {api.Msg{Kind: api.Ship, From: 1, To: 2, Term: 4, Shot: stamp}, false},
		{with(put), false}, {with(put, grant(1)), true}, {with(put, grant(2)), false}, {with(put, grant(1), grant(1)), false}, {with(put, noop(0)), false},
		{with(put, api.Entry{Term: 1, Cmd: grant(1).Cmd}), false}, {with(put, api.Entry{Cmd: api.Cmd{Kind: api.Grant, Node: 1}}), false},
		{with(put, api.Entry{Cmd: api.Cmd{Kind: api.Renew, Node: 1, Boot: 1, Seq: 1, Token: 1, Serial: 1}}), true},
		{with(put, api.Entry{Cmd: api.Cmd{Kind: api.Release, Node: 1, Boot: 1, Seq: 1, Token: 1, Serial: 1}}), true},
		{with(put, api.Entry{Cmd: api.Cmd{Kind: api.Reclaim, Token: 1, Serial: 1, Stamp: 1}}), false},
	} {
		if (Check(x.m) == api.OK) != x.good {
			t.Errorf("case %d: Check(%v) is %d", i, x.m, Check(x.m))
		}
	}
}

func sealed(body string) []byte {
	b, _ := frame.Seal([]byte(body))
	return b
}

// P8.2, P8.4
func TestInverse(t *testing.T) {
	msgs, bodies := good()
	for i, m := range msgs {
		b, e := Encode(m)
		if !bytes.Equal(b, sealed(bodies[i])) || e != api.OK {
			t.Errorf("message %d: Encode is %x, %d", i, b, e)
		}
		if got, e := Decode(b); !reflect.DeepEqual(got, m) || e != api.OK {
			t.Errorf("message %d: Decode is %v, %d", i, got, e)
		}
		for k := range bodies[i] {
			if got, e := Decode(sealed(bodies[i][:k])); !reflect.DeepEqual(got, api.Msg{}) || e != api.ErrShort {
				t.Errorf("message %d: Decode of %d bytes is %v, %d", i, k, got, e)
			}
		}
		if _, e := Decode(sealed(bodies[i] + "\x00")); e != api.ErrForm {
			t.Errorf("message %d: Decode with a byte left over is %d", i, e)
		}
		if _, e := Decode(append(b, 0)); e != api.ErrForm {
			t.Errorf("message %d: Decode with a byte behind is %d", i, e)
		}
		if _, e := Decode(b[:len(b)-1]); e != api.ErrShort {
			t.Errorf("message %d: Decode without the last byte is %d", i, e)
		}
		b[len(b)-1] ^= 1
		if _, e := Decode(b); e != api.ErrSum {
			t.Errorf("message %d: Decode with a wrong sum is %d", i, e)
		}
	}
}

// P8.3
func TestDecodeErrors(t *testing.T) {
	if _, e := Decode(nil); e != api.ErrShort {
		t.Errorf("Decode of nothing is %d", e)
	}
	if _, e := Decode([]byte("abcd")); e != api.ErrForm {
		t.Errorf("Decode of no frame is %d", e)
	}
	for body, want := range map[string]api.Errno{
		"\x00": api.ErrForm, "\x07": api.ErrForm, "\x02": api.ErrShort, "\x02\x09\x09\x01\x05": api.ErrShort, "\x02\x09\x09\x01\x05\x01": api.ErrMsg,
		"\x02\x01\x01\x01\x05\x01": api.ErrMsg, "\x02\x01\x02\x00\x01": api.ErrMsg, "\x02\x01\x02\x09": api.ErrForm, "\x02\x01\x02\x01\x00": api.ErrForm,
		"\x02\x01\x02\x01\x05\x02": api.ErrForm, "\x04\x01\x02\x01\x05\x02": api.ErrForm, "\x02\x01\x02\x01\x05\x00\x00": api.ErrForm,
		// Entries: how many, their Terms, their commands.
		"\x03\x01\x02\x01\x05\x00\x00\x00\x01\x05": api.ErrForm, "\x03\x01\x02\x01\x05\x00\x00\x00\x01\x04": api.ErrShort,
		"\x03\x01\x02\x01\x05\x00\x00\x00\x01\x01\x01\x05\x01\x07": api.ErrForm, "\x03\x01\x02\x01\x05\x00\x00\x00\x01\x01\x01\x05\x01\x03\x01": api.ErrShort,
		"\x03\x01\x02\x01\x05\x00\x00\x00\x01\x01\x01\x05\x01\x03\x01\x09\x01\x01\x01\x01":                 api.ErrMsg,
		"\x03\x01\x02\x01\x05\x00\x00\x00\x01\x01\x01\x05\x01\x03\x01\x09\x01\x01\x01\x01\x00":             api.ErrForm,
		"\x03\x01\x02\x01\x05\x00\x00\x00\x01\x02\x01\x05\x01\x03\x01\x09\x01\x01\x01\x01":                 api.ErrShort,
		"\x03\x01\x02\x01\x05\x00\x00\x00\x01\x02\x01\x05\x01\x03\x01\x09\x01\x01\x01\x01\x01\x05\x01\x07": api.ErrForm,
		"\x03\x01\x02\x01\x05\x00\x00\x00\x01\x02\x01\x05\x01\x03\x01\x09\x01\x01\x01\x01\x01\x05\x01\x01": api.ErrMsg,
		"\x03\x01\x02\x01\x05\x00\x00\x00\x01\x01\x01\x06\x01\x01":                                         api.ErrMsg, "\x03\x01\x02\x01\x05\x01\x01\x00\x00\x00": api.ErrMsg,
		"\x06\x01\x02\x00": api.ErrMsg, "\x06\x01\x02\x01\x01\x00\x01\x01": api.ErrMsg,
		// The snapshot.
		"\x05\x01\x02\x01\x04": api.ErrShort, "\x05\x01\x02\x01\x04\x54": api.ErrForm, "\x05\x01\x02\x00\x54": api.ErrForm,
		"\x05\x01\x02\x01\x04\x53\x00\x00\x01\x01\x01\x01\x01\x02\x01\x01\x00\x00":         api.ErrMsg,
		"\x05\x01\x02\x01\x04\x53\x01\x09\x00\x01\x01\x01\x01\x01\x02\x01\x01\x00\x00":     api.ErrMsg,
		"\x05\x01\x02\x01\x04\x53\x01\x09\x00\x01\x01\x01\x01\x01\x02\x01\x01\x00\x00\x00": api.ErrForm,
		"\x05\x01\x02\x01\x04\x53\x01\x09\x01\x05\x01\x01\x01\x01\x01\x02\x01\x01\x00\x00": api.ErrMsg,
	} {
		if m, e := Decode(sealed(body)); !reflect.DeepEqual(m, api.Msg{}) || e != want {
			t.Errorf("Decode of the body %x is %v, %d, not %d", body, m, e, want)
		}
	}
}

// P8.4: what Decode accepts, Encode returns.
func TestAccepted(t *testing.T) {
	r := rand.New(rand.NewSource(1))
	_, bodies := good()
	accepted := 0
	for range 100000 {
		body := []byte(bodies[r.Intn(len(bodies))])
		for range r.Intn(3) {
			body[r.Intn(len(body))] = byte(r.Intn(9))
		}
		b := sealed(string(body))
		m, e := Decode(b)
		if e != api.OK {
			continue
		}
		accepted++
		if again, e := Encode(m); !bytes.Equal(again, b) || e != api.OK {
			t.Fatalf("Encode after Decode of the body %x is %x, %d", body, again, e)
		}
	}
	if accepted < 1000 {
		t.Errorf("only %d messages were accepted", accepted)
	}
}
