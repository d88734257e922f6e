package octet

import (
	"bytes"
	"math/rand"
	"strings"
	"testing"

	"stopcock/api"
)

// P1.1
func TestNum(t *testing.T) {
	for _, x := range []struct {
		n    uint64
		want string
	}{
		{0, "\x00"}, {1, "\x01\x01"}, {255, "\x01\xff"}, {256, "\x02\x01\x00"}, {1 << 16, "\x03\x01\x00\x00"},
		{0x0102030405060708, "\x08\x01\x02\x03\x04\x05\x06\x07\x08"}, {1<<64 - 1, "\x08" + strings.Repeat("\xff", 8)},
	} {
		if got := Num(x.n); string(got) != x.want {
			t.Errorf("Num(%d) is %x, not %x", x.n, got, x.want)
		}
	}
}

// P1.2
func TestReadNum(t *testing.T) {
	for _, x := range []struct {
		b string
		n uint64
		k int
		e api.Errno
	}{
		{"\x02\x01\x00\x77", 256, 3, api.OK}, {"\x00", 0, 1, api.OK}, {"\x00\x00", 0, 1, api.OK},
		{"\x08" + strings.Repeat("\xff", 8), 1<<64 - 1, 9, api.OK},
		{"", 0, 0, api.ErrShort}, {"\x09", 0, 0, api.ErrForm}, {"\xff" + strings.Repeat("\x01", 300), 0, 0, api.ErrForm},
		{"\x02\x01", 0, 0, api.ErrShort}, {"\x01", 0, 0, api.ErrShort}, {"\x01\x00", 0, 0, api.ErrForm},
		{"\x02\x00", 0, 0, api.ErrShort}, {"\x02\x00\x01", 0, 0, api.ErrForm},
		{"\x08\x01\x01\x01\x01\x01\x01\x01", 0, 0, api.ErrShort},
	} {
		if n, k, e := ReadNum([]byte(x.b)); n != x.n || k != x.k || e != x.e {
			t.Errorf("ReadNum(%x) is %d, %d, %d", x.b, n, k, e)
		}
	}
}

// P1.3
func TestText(t *testing.T) {
	if got := Text("ab"); string(got) != "\x01\x02ab" {
		t.Errorf("Text is %x", got)
	}
	if got := Text(strings.Repeat("x", 256)); string(got[:4]) != "\x02\x01\x00x" || len(got) != 259 {
		t.Errorf("Text is %x", got)
	}
	for _, x := range []struct {
		b    string
		most int
		s    string
		k    int
		e    api.Errno
	}{
		{"\x01\x02abc", 2, "ab", 4, api.OK}, {"\x00", 0, "", 1, api.OK}, {"\x00z", 9, "", 1, api.OK},
		{"\x01\x02abc", 1, "", 0, api.ErrLong}, {"\x01\x02a", 1, "", 0, api.ErrLong},
		{"\x01\x04abc", 9, "", 0, api.ErrShort}, {"\x01\x04abc", 4, "", 0, api.ErrShort},
		{"\x00", -1, "", 0, api.ErrLong}, {"", -1, "", 0, api.ErrShort}, {"\x09", -1, "", 0, api.ErrForm},
		{"\x08" + strings.Repeat("\xff", 8), 1<<63 - 1, "", 0, api.ErrLong},
		{"\x08\x7f" + strings.Repeat("\xff", 7), 1<<63 - 1, "", 0, api.ErrShort},
	} {
		if s, k, e := ReadText([]byte(x.b), x.most); s != x.s || k != x.k || e != x.e {
			t.Errorf("ReadText(%x, %d) is %q, %d, %d", x.b, x.most, s, k, e)
		}
	}
}

// slow is the checksum as the document words it, bit by bit.
func slow(b []byte) uint32 {
	r := uint32(0xffffffff)
	for _, x := range b {
		r ^= uint32(x) << 24
		for range 8 {
			out := r >> 31
			r <<= 1
			if out == 1 {
				r ^= 0x04c11db7
			}
		}
	}
	return ^r
}

// P1.4
func TestSum(t *testing.T) {
	if Sum([]byte("123456789")) != 0xfc891918 || Sum(nil) != 0 {
		t.Error("the examples' sums are others")
	}
	for i := range 256 {
		b := []byte{byte(i), byte(i * 7), byte(i >> 1)}
		if Sum(b) != slow(b) || Sum(b[:1]) != slow(b[:1]) {
			t.Errorf("Sum(%x) is %x, not %x", b, Sum(b), slow(b))
		}
	}
}

// P1.5
func TestInverse(t *testing.T) {
	r := rand.New(rand.NewSource(1))
	for range 2000 {
		n := r.Uint64() >> r.Intn(64)
		tail := make([]byte, r.Intn(12))
		r.Read(tail)
		if m, k, e := ReadNum(append(Num(n), tail...)); m != n || k != len(Num(n)) || e != api.OK {
			t.Fatalf("ReadNum after Num(%d) is %d, %d, %d", n, m, k, e)
		}
		if m, k, e := ReadNum(tail); e == api.OK && !bytes.Equal(Num(m), tail[:k]) {
			t.Fatalf("Num after ReadNum(%x) is %x", tail, Num(m))
		}
		s := strings.Repeat("ab", r.Intn(200))
		if x, k, e := ReadText(append(Text(s), tail...), len(s)); x != s || k != len(Text(s)) || e != api.OK {
			t.Fatalf("ReadText after Text of %d bytes is %d, %d", len(s), k, e)
		}
	}
}

// P1.5: a change within 32 consecutive bits is noticed.
func TestBursts(t *testing.T) {
	r := rand.New(rand.NewSource(2))
	for range 5000 {
		b := make([]byte, 8+r.Intn(40))
		r.Read(b)
		c := bytes.Clone(b)
		mask := r.Uint32() >> r.Intn(32)
		from := r.Intn(len(b)*8 - 31)
		for i := range 32 {
			if mask>>i&1 == 1 {
				c[(from+i)/8] ^= 0x80 >> ((from + i) % 8)
			}
		}
		if mask != 0 && Sum(b) == Sum(c) {
			t.Fatalf("%x and %x have the same sum", b, c)
		}
	}
}

// R2: an answer shares nothing with what was given.
func TestOwnMemory(t *testing.T) {
	b := []byte("\x01\x02ab")
	s, _, _ := ReadText(b, 9)
	b[2] = 'x'
	if s != "ab" {
		t.Error("ReadText shares its argument's bytes")
	}
	Num(7)[1] = 9
	if string(Num(7)) != "\x01\x07" {
		t.Error("Num shares its answer's bytes")
	}
}
