package cmd

import (
	"bytes"
	"math"
	"math/rand"
	"reflect"
	"testing"

	"stopcock/api"
)

// good returns valid commands of all Kinds, with what each byte string is.
func good() map[string]api.Cmd {
	return map[string]api.Cmd{
		"\x01\x01":                                                     {Kind: api.Noop},
		"\x01\x02\x01\x02\x01\x01\x01\x03":                             {Kind: api.Conf, Nodes: []int{1, 3}},
		"\x01\x03\x01\x07\x01\x05\x02\x01\x00":                         {Kind: api.Grant, Node: 7, Boot: 5, Seq: 256},
		"\x01\x04\x01\x01\x01\x02\x01\x03\x02\xff\xff\x01\x04":         {Kind: api.Renew, Node: 1, Boot: 2, Seq: 3, Token: 65535, Serial: 4},
		"\x01\x05\x01\x01\x01\x02\x01\x03\x01\x01\x01\x04":             {Kind: api.Release, Node: 1, Boot: 2, Seq: 3, Token: 1, Serial: 4},
		"\x01\x06\x01\x09\x01\x08\x08\xff\xff\xff\xff\xff\xff\xff\xff": {Kind: api.Reclaim, Token: 9, Serial: 8, Stamp: 1<<64 - 1},
	}
}

// P4.1
func TestCheck(t *testing.T) {
	for _, c := range good() {
		if Check(c) != api.OK {
			t.Errorf("Check(%v) is %d", c, Check(c))
		}
		if c.Kind != api.Conf {
			c.Nodes = []int{}
			if Check(c) != api.OK {
				t.Errorf("Check(%v) with an empty list is %d", c, Check(c))
			}
		}
		for i, spoil := range []func(*api.Cmd){
			func(c *api.Cmd) { c.Kind = 0 }, func(c *api.Cmd) { c.Kind = 7 }, func(c *api.Cmd) { c.Kind = -1 }, func(c *api.Cmd) { c.Kind = math.MinInt },
			func(c *api.Cmd) { c.Node = 8 }, func(c *api.Cmd) { c.Node = -1 }, func(c *api.Cmd) { c.Token = 65536 }, func(c *api.Cmd) { c.Token = -1 },
			func(c *api.Cmd) { c.Nodes = []int{3, 1} }, func(c *api.Cmd) { c.Nodes = []int{8} },
		} {
			x := c
			spoil(&x)
			if Check(x) != api.ErrCmd {
				t.Errorf("case %d: Check(%v) is %d", i, x, Check(x))
			}
		}
	}
}

// P4.1: each field must be there if the Kind has it, and zero if not.
func TestFields(t *testing.T) {
	has := map[int]string{api.Noop: "", api.Conf: "l", api.Grant: "nbq", api.Renew: "nbqts", api.Release: "nbqts", api.Reclaim: "tsm"}
	for kind, want := range has {
		for bits := range 1 << 7 {
			c := api.Cmd{Kind: kind}
			got := ""
			for i, set := range []func(){
				func() { c.Node = 1 }, func() { c.Boot = 1 }, func() { c.Seq = 1 }, func() { c.Token = 1 },
				func() { c.Serial = 1 }, func() { c.Stamp = 1 }, func() { c.Nodes = []int{1} },
			} {
				if bits>>i&1 == 1 {
					set()
					got += "nbqtsml"[i : i+1]
				}
			}
			if (Check(c) == api.OK) != (got == want) {
				t.Errorf("Kind %d with the fields %q: Check is %d", kind, got, Check(c))
			}
		}
	}
}

// P4.2, P4.4
func TestEncode(t *testing.T) {
	for s, c := range good() {
		b, e := Encode(c)
		if string(b) != s || e != api.OK {
			t.Errorf("Encode(%v) is %x, %d", c, b, e)
		}
		got, n, e := Decode([]byte(s + "\x09\x00"))
		if !reflect.DeepEqual(got, c) || n != len(s) || e != api.OK {
			t.Errorf("Decode(%x) is %v, %d, %d", s, got, n, e)
		}
		for k := range len(s) {
			if got, n, e := Decode([]byte(s[:k])); !reflect.DeepEqual(got, api.Cmd{}) || n != 0 || e != api.ErrShort {
				t.Errorf("Decode(%x) is %v, %d, %d", s[:k], got, n, e)
			}
		}
	}
	if b, e := Encode(api.Cmd{Kind: api.Grant}); b != nil || e != api.ErrCmd {
		t.Errorf("Encode of no command is %x, %d", b, e)
	}
}

// P4.3
func TestDecodeErrors(t *testing.T) {
	for s, want := range map[string]api.Errno{
		"": api.ErrShort, "\x01\x07": api.ErrForm, "\x00": api.ErrForm, "\x01\x00": api.ErrForm, "\x09": api.ErrForm,
		"\x08\xff\xff\xff\xff\xff\xff\xff\xff": api.ErrForm,
		"\x01\x02\x01":                         api.ErrShort, "\x01\x02\x00": api.ErrCmd, "\x01\x02\x01\x08": api.ErrForm,
		"\x01\x02\x01\x01": api.ErrShort, "\x01\x02\x01\x01\x01\x09": api.ErrCmd, "\x01\x02\x01\x01\x02\xff\xff": api.ErrCmd, "\x01\x02\x01\x01\x03\x01\x00\x00": api.ErrForm,
		"\x01\x02\x01\x02\x01\x03\x01\x01": api.ErrCmd, "\x01\x02\x01\x02\x01\x09\x09": api.ErrForm,
		"\x01\x03\x01\x09\x01\x01\x01\x01": api.ErrCmd, "\x01\x03\x01\x09\x01\x01": api.ErrShort, "\x01\x03\x03\x01\x00\x00": api.ErrForm,
		"\x01\x03\x01\x01\x00\x01\x01": api.ErrCmd, "\x01\x03\x01\x01\x01\x01\x00": api.ErrCmd,
		"\x01\x04\x01\x01\x01\x01\x01\x01\x03\x01\x00\x00": api.ErrForm, "\x01\x04\x01\x01\x01\x01\x01\x01\x00\x01\x01": api.ErrCmd,
		"\x01\x06\x01\x01\x01\x01\x00": api.ErrCmd, "\x01\x06\x00\x00\x09": api.ErrForm, "\x01\x06\x00\x00": api.ErrShort,
	} {
		if c, n, e := Decode([]byte(s)); !reflect.DeepEqual(c, api.Cmd{}) || n != 0 || e != want {
			t.Errorf("Decode(%x) is %v, %d, %d, not %d", s, c, n, e, want)
		}
	}
}

// P4.4: what Decode accepts, Encode returns.
func TestInverse(t *testing.T) {
	r := rand.New(rand.NewSource(1))
	accepted := 0
	for range 200000 {
		b := []byte{1, byte(1 + r.Intn(6))}
		for range r.Intn(7) {
			w := r.Intn(3)
			b = append(b, byte(w))
			for range w {
				b = append(b, byte(r.Intn(8)))
			}
		}
		c, n, e := Decode(b)
		if e != api.OK {
			continue
		}
		accepted++
		if got, e := Encode(c); !bytes.Equal(got, b[:n]) || e != api.OK {
			t.Fatalf("Encode after Decode(%x) is %x, %d", b, got, e)
		}
	}
	if accepted < 1000 {
		t.Errorf("only %d commands were accepted", accepted)
	}
}
