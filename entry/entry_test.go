package entry

import (
	"reflect"
	"testing"

	"stopcock/api"
)

func grant(node int) api.Entry {
	return api.Entry{Term: 256, Cmd: api.Cmd{Kind: api.Grant, Node: node, Boot: 1, Seq: 2}}
}

func TestFits(t *testing.T) {
	if !Fits(grant(1)) || !Fits(api.Entry{Term: 1, Cmd: grant(1).Cmd}) || Fits(grant(8)) || Fits(api.Entry{Cmd: grant(1).Cmd}) || Fits(api.Entry{}) {
		t.Error("Fits is wrong")
	}
}

func TestInverse(t *testing.T) {
	s := "\x02\x01\x00\x01\x03\x01\x07\x01\x01\x01\x02"
	if b := Encode(grant(7)); string(b) != s {
		t.Errorf("Encode is %x", b)
	}
	if x, n, e := Decode([]byte(s + "\x09")); !reflect.DeepEqual(x, grant(7)) || n != len(s) || e != api.OK {
		t.Errorf("Decode is %v, %d, %d", x, n, e)
	}
}

// A command that is not valid is passed over, the numbers of one that is cut off are not.
func TestDecode(t *testing.T) {
	for _, x := range []struct {
		b    string
		want api.Entry
		n    int
		e    api.Errno
	}{
		{"\x01\x05\x01\x03\x01\x09\x01\x01\x01\x02\x01\x01", api.Entry{Term: 5}, 10, api.OK}, {"\x00\x01\x02\x00", api.Entry{}, 4, api.OK},
		{"\x01\x05\x01\x02\x01\x02\x01\x03\x01\x01\x44", api.Entry{Term: 5}, 10, api.OK},
		{"\x01\x05\x01\x03\x01\x09\x01\x01", api.Entry{}, 0, api.ErrShort}, {"", api.Entry{}, 0, api.ErrShort}, {"\x01\x05", api.Entry{}, 0, api.ErrShort},
		{"\x01\x00", api.Entry{}, 0, api.ErrForm}, {"\x01\x05\x01\x07", api.Entry{}, 0, api.ErrForm},
	} {
		if got, n, e := Decode([]byte(x.b)); !reflect.DeepEqual(got, x.want) || n != x.n || e != x.e {
			t.Errorf("Decode(%x) is %v, %d, %d", x.b, got, n, e)
		}
	}
}
