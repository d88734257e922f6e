package frame

import (
	"bytes"
	"math/rand"
	"testing"

	"stopcock/api"
	"stopcock/octet"
)

// P7.1
func TestSeal(t *testing.T) {
	for _, x := range []struct{ body, head string }{
		{"", "\xff\xff\x00\x00"}, {"a", "\xff\xfe\x00\x01"}, {string(make([]byte, 256)), "\xfe\xff\x01\x00"}, {string(make([]byte, 8192)), "\xdf\xff\x20\x00"},
	} {
		want := []byte(x.head + x.body)
		s := octet.Sum(want)
		want = append(want, byte(s>>24), byte(s>>16), byte(s>>8), byte(s))
		if b, e := Seal([]byte(x.body)); !bytes.Equal(b, want) || e != api.OK {
			t.Errorf("Seal of %d bytes is %x, %d", len(x.body), b, e)
		}
	}
	if b, e := Seal(make([]byte, 8193)); b != nil || e != api.ErrLong {
		t.Errorf("Seal of too many bytes has %d bytes, %d", len(b), e)
	}
}

// P7.2
func TestOpenErrors(t *testing.T) {
	whole, _ := Seal([]byte("ab"))
	for k := range whole {
		if b, n, e := Open(whole[:k]); b != nil || n != 0 || e != api.ErrShort {
			t.Errorf("Open(%x) is %x, %d, %d", whole[:k], b, n, e)
		}
	}
	wrong := bytes.Clone(whole)
	wrong[len(wrong)-1] ^= 1
	for _, x := range []struct {
		b    string
		want api.Errno
	}{
		{"\xff\xfe\x00\x01a", api.ErrShort}, {"\x00\x00\x00\x00", api.ErrForm}, {"\xff\xff\x00", api.ErrShort}, {"\xff\xff\x00\x01a....", api.ErrForm},
		{"\xdf\xfe\x20\x01" + string(make([]byte, 9000)), api.ErrForm}, {"\xdf\xfe\x20\x01", api.ErrForm}, {"\xdf\xff\x20\x00", api.ErrShort},
		{"\xff\xff\x00\x00\x00\x00\x00\x00", api.ErrSum}, {string(wrong), api.ErrSum},
	} {
		if b, n, e := Open([]byte(x.b)); b != nil || n != 0 || e != x.want {
			t.Errorf("Open(%x) is %x, %d, %d", x.b, b, n, e)
		}
	}
}

// P7.3
func TestInverse(t *testing.T) {
	r := rand.New(rand.NewSource(1))
	for _, size := range []int{0, 1, 2, 7, 255, 256, 1000, 8192} {
		body := make([]byte, size)
		r.Read(body)
		b, _ := Seal(body)
		for _, more := range []string{"", "x", "\xff\xff\x00\x00"} {
			got, n, e := Open(append(bytes.Clone(b), more...))
			if !bytes.Equal(got, body) || n != len(b) || e != api.OK {
				t.Errorf("Open after Seal of %d bytes is %x, %d, %d", size, got, n, e)
			}
		}
	}
}

// P7.3: a change within 16 consecutive bits is never taken for the frame, nor for a shorter one.
func TestBursts(t *testing.T) {
	r := rand.New(rand.NewSource(2))
	for _, size := range []int{0, 1, 3, 40} {
		body := make([]byte, size)
		r.Read(body)
		b, _ := Seal(body)
		for at := 0; at+16 <= 8*len(b); at++ {
			for range 60 {
				c := bytes.Clone(b)
				mask := 1 + r.Intn(1<<16-1)
				for i := range 16 {
					if mask>>i&1 == 1 {
						c[(at+i)/8] ^= 0x80 >> ((at + i) % 8)
					}
				}
				if _, _, e := Open(c); e != api.ErrForm && e != api.ErrSum {
					t.Fatalf("Open(%x), which was %x, is %d", c, b, e)
				}
			}
		}
	}
}

// R2: a body shares nothing with the frame.
func TestOwnMemory(t *testing.T) {
	b, _ := Seal([]byte("ab"))
	body, _, _ := Open(b)
	b[4] = 'x'
	if string(body) != "ab" {
		t.Error("Open shares its argument's memory")
	}
	body = append(body, '!')
	if b[4] != 'x' || b[6] == '!' {
		t.Error("Open's answer reaches into its argument")
	}
}
