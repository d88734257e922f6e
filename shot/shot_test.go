package shot

import (
	"bytes"
	"math/rand"
	"reflect"
	"testing"

	"stopcock/api"
	"stopcock/octet"
)

// sample is a valid snapshot with something in each list.
func sample() api.Shot {
	return api.Shot{
		Index: 300, Term: 4, Nodes: []int{1, 3, 7},
		Ledger: api.Ledger{
			Limit: 65535, Next: 6,
			Held: []api.Held{{Token: 2, Node: 1, Boot: 3, Serial: 5, Stamp: 300}, {Token: 65535, Node: 7, Boot: 1, Serial: 1, Stamp: 2}},
			Last: []api.Last{
				{Node: 1, Boot: 3, Seq: 4, Answer: api.Answer{Code: api.Granted, Token: 9, Serial: 5}},
				{Node: 3, Boot: 1, Seq: 1, Answer: api.Answer{Code: api.Gone}},
			},
		},
	}
}

// largest is a snapshot whose encoding is as long as one may be.
func largest() api.Shot {
	top := uint64(1<<64 - 1)
	s := api.Shot{Index: top, Term: top, Nodes: []int{1, 2, 3, 4, 5, 6, 7}, Ledger: api.Ledger{Limit: 65535, Next: top}}
	for i := range api.MaxHeld {
		s.Ledger.Held = append(s.Ledger.Held, api.Held{Token: 65000 + i, Node: 7, Boot: top, Serial: top - 1 - uint64(i), Stamp: top})
	}
	for n := 1; n <= api.MaxNodes; n++ {
		s.Ledger.Last = append(s.Ledger.Last, api.Last{Node: n, Boot: top, Seq: top, Answer: api.Answer{Code: api.Granted, Token: 65535, Serial: top - 1}})
	}
	return s
}

// P6.1
func TestNew(t *testing.T) {
	l := []int{1, 3}
	s, e := New(2, l)
	l[0] = 2
	want := api.Shot{Nodes: []int{1, 3}, Ledger: api.Ledger{Limit: 2, Next: 1}}
	if e != api.OK || !reflect.DeepEqual(s, want) || Check(s) != api.OK {
		t.Errorf("New is %v, %d", s, e)
	}
	for _, x := range []struct {
		limit int
		l     []int
	}{{0, []int{1}}, {65536, []int{1}}, {-1, nil}, {1, nil}, {1, []int{2, 1}}, {1, []int{8}}} {
		if s, e := New(x.limit, x.l); !reflect.DeepEqual(s, api.Shot{}) || e != api.ErrArg {
			t.Errorf("New(%d, %v) is %v, %d", x.limit, x.l, s, e)
		}
	}
}

// spoilers returns what makes of the sample a snapshot that is not valid, but has an encoding.
func spoilers() []func(*api.Shot) {
	return []func(*api.Shot){
		func(s *api.Shot) { s.Index = 299 }, func(s *api.Shot) { s.Term = 0 }, func(s *api.Shot) { s.Index = 0; s.Ledger.Held = nil },
		func(s *api.Shot) { s.Nodes = nil }, func(s *api.Shot) { s.Nodes[2] = 8 }, func(s *api.Shot) { s.Nodes[1] = 1 },
		func(s *api.Shot) { s.Ledger.Limit = 0 }, func(s *api.Shot) { s.Ledger.Next = 5 }, func(s *api.Shot) { s.Ledger.Held[0].Token = 65535 },
		func(s *api.Shot) { s.Ledger.Last[1].Answer.Code = 6 }, func(s *api.Shot) { s.Ledger.Last[1].Node = 1 }, func(s *api.Shot) { s.Ledger.Held[0].Boot = 0 },
	}
}

// P6.1
func TestCheck(t *testing.T) {
	for _, s := range []api.Shot{sample(), largest()} {
		if Check(s) != api.OK {
			t.Errorf("Check(%v) is %d", s, Check(s))
		}
	}
	for i, spoil := range spoilers() {
		s := sample()
		spoil(&s)
		if b, e := Encode(s); Check(s) != api.ErrShot || b != nil || e != api.ErrShot {
			t.Errorf("case %d: Check is %d, and Encode %x, %d", i, Check(s), b, e)
		}
	}
	if Check(api.Shot{}) != api.ErrShot {
		t.Error("nothing is a snapshot")
	}
}

// P6.2
func TestEncode(t *testing.T) {
	s, _ := New(2, []int{1, 3})
	b, e := Encode(s)
	if string(b) != "\x53\x00\x00\x01\x02\x01\x01\x01\x03\x01\x02\x01\x01\x00\x00" || e != api.OK {
		t.Errorf("Encode is %x, %d", b, e)
	}
	b, e = Encode(sample())
	want := "\x53\x02\x01\x2c\x01\x04\x01\x03\x01\x01\x01\x03\x01\x07\x02\xff\xff\x01\x06" +
		"\x01\x02\x01\x02\x01\x01\x01\x03\x01\x05\x02\x01\x2c\x02\xff\xff\x01\x07\x01\x01\x01\x01\x01\x02" +
		"\x01\x02\x01\x01\x01\x03\x01\x04\x01\x01\x01\x09\x01\x05\x01\x03\x01\x01\x01\x01\x01\x04\x00\x00"
	if string(b) != want || e != api.OK {
		t.Errorf("Encode is %x, %d, not %x", b, e, want)
	}
	if b, e = Encode(largest()); len(b) > api.MaxBody-100 || e != api.OK {
		t.Errorf("Encode of the largest has %d bytes, %d", len(b), e)
	}
}

// raw writes numbers behind the first byte, whether they are a snapshot or not.
func raw(numbers ...uint64) []byte {
	return put([]byte{mark}, numbers...)
}

// P6.3
func TestDecodeErrors(t *testing.T) {
	for i, x := range []struct {
		b    []byte
		want api.Errno
	}{
		{nil, api.ErrShort}, {[]byte{0x53}, api.ErrShort}, {[]byte{0x54}, api.ErrForm}, {[]byte{0x53, 9}, api.ErrForm}, {[]byte{0x53, 1, 0}, api.ErrForm},
		{make([]byte, api.MaxBody+1), api.ErrLong}, {make([]byte, api.MaxBody), api.ErrForm},
		{raw(0, 0, 65), api.ErrForm}, {raw(0, 0, 64), api.ErrShort}, {raw(0, 0, 1, 65536), api.ErrForm}, {raw(0, 0, 1, 65535), api.ErrShort},
		{raw(0, 0, 0, 65536), api.ErrForm}, {raw(0, 0, 0, 2, 1, 65), api.ErrForm}, {raw(0, 0, 0, 2, 1, 1, 65536), api.ErrForm}, {raw(0, 0, 0, 2, 1, 1, 1, 65536), api.ErrForm},
		{raw(0, 0, 0, 2, 1, 0, 65), api.ErrForm}, {raw(0, 0, 0, 2, 1, 0, 1, 65536), api.ErrForm}, {raw(0, 0, 0, 2, 1, 0, 1, 1, 1, 1, 65536), api.ErrForm},
		{raw(0, 0, 0, 2, 1, 0, 1, 1, 1, 1, 1, 65536), api.ErrForm}, {raw(0, 0, 0, 2, 1, 0, 0, 0), api.ErrForm}, {raw(0, 0, 0, 2, 1, 0, 0), api.ErrShot},
		{raw(0, 0, 1, 1, 2, 1, 0), api.ErrShort}, {raw(0, 1, 1, 1, 2, 1, 0, 0), api.ErrShot}, {append(raw(0, 0, 1, 1, 2, 1, 0, 0), 9), api.ErrForm},
	} {
		if s, e := Decode(x.b); !reflect.DeepEqual(s, api.Shot{}) || e != x.want {
			t.Errorf("case %d: Decode(%x) is %v, %d", i, x.b, s, e)
		}
	}
	if s, e := Decode(raw(0, 0, 1, 1, 2, 1, 0, 0)); s.Ledger.Limit != 2 || e != api.OK {
		t.Errorf("Decode is %v, %d", s, e)
	}
	for i, spoil := range spoilers() {
		s := sample()
		spoil(&s)
		if _, e := Decode(unchecked(s)); e != api.ErrShot {
			t.Errorf("case %d: Decode is %d", i, e)
		}
	}
}

// unchecked is the encoding of a snapshot that need not be valid.
func unchecked(s api.Shot) []byte {
	b := raw(s.Index, s.Term, uint64(len(s.Nodes)))
	for _, n := range s.Nodes {
		b = append(b, octet.Num(uint64(n))...)
	}
	b = put(b, uint64(s.Ledger.Limit), s.Ledger.Next, uint64(len(s.Ledger.Held)))
	for _, x := range s.Ledger.Held {
		b = put(b, uint64(x.Token), uint64(x.Node), x.Boot, x.Serial, x.Stamp)
	}
	b = put(b, uint64(len(s.Ledger.Last)))
	for _, x := range s.Ledger.Last {
		b = put(b, uint64(x.Node), x.Boot, x.Seq, uint64(x.Answer.Code), uint64(x.Answer.Token), x.Answer.Serial)
	}
	return b
}

// P6.4
func TestInverse(t *testing.T) {
	for _, s := range []api.Shot{sample(), largest()} {
		b, _ := Encode(s)
		if got, e := Decode(b); !reflect.DeepEqual(got, s) || e != api.OK {
			t.Errorf("Decode after Encode of %v is %v, %d", s, got, e)
		}
		for k := range b {
			if got, e := Decode(b[:k]); !reflect.DeepEqual(got, api.Shot{}) || e != api.ErrShort {
				t.Fatalf("Decode of %d bytes is %v, %d", k, got, e)
			}
		}
	}
	r := rand.New(rand.NewSource(1))
	b, _ := Encode(sample())
	for range 50000 {
		c := bytes.Clone(b)
		for range 1 + r.Intn(3) {
			c[r.Intn(len(c))] = byte(r.Intn(10))
		}
		if s, e := Decode(c); e == api.OK {
			if again, e := Encode(s); !bytes.Equal(again, c) || e != api.OK {
				t.Fatalf("Encode after Decode(%x) is %x, %d", c, again, e)
			}
		}
	}
}
