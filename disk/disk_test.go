package disk

import (
	"bytes"
	"fmt"
	"math"
	"math/rand"
	"slices"
	"testing"

	"stopcock/api"
)

func errno(t *testing.T, what string, got, want api.Errno) {
	t.Helper()
	if got != want {
		t.Errorf("%s is %d, not %d", what, got, want)
	}
}

func content(t *testing.T, d *Disk, name, want string, e api.Errno) {
	t.Helper()
	if b, got := d.Read(name); string(b) != want || got != e {
		t.Errorf("Read(%q) is %q, %d, not %q, %d", name, b, got, want, e)
	}
}

// P10.1
func TestNew(t *testing.T) {
	d := New()
	if !d.On() || len(d.Names()) != 0 || d.Loose("a") != 0 {
		t.Error("a new disk is not empty and on")
	}
	for _, name := range []string{"b", "a", "0", "zz", "a0"} {
		errno(t, "Append", d.Append(name, []byte("xyz")), api.OK)
	}
	d.Crash([]int{3, 3, 3, 3, 3})
	if d.On() || !slices.Equal(d.Names(), []string{"0", "a", "a0", "b", "zz"}) || d.Loose("a") != 0 {
		t.Errorf("the names are %v", d.Names())
	}
}

// P10.2
func TestAppend(t *testing.T) {
	d := New()
	for _, name := range []string{"", "A", "a-b", "a.", "é", " ", "abcdefghijklm", "a\x00", "{", "`", "/", ":"} {
		errno(t, "Append to "+name, d.Append(name, []byte("x")), api.ErrArg)
		errno(t, "Append of nothing to "+name, d.Append(name, nil), api.ErrArg)
	}
	errno(t, "Append", d.Append("abcdefghijkl", []byte("x")), api.OK)
	errno(t, "Append of nothing", d.Append("new", nil), api.OK)
	content(t, d, "new", "", api.ErrNone)
	errno(t, "Append", d.Append("abcdefghijkl", []byte("yz")), api.OK)
	content(t, d, "abcdefghijkl", "xyz", api.OK)
	if d.Loose("abcdefghijkl") != 3 || d.Loose("new") != 0 {
		t.Error("Loose is wrong")
	}
}

// P10.2: no more than 64 files.
func TestFull(t *testing.T) {
	d := New()
	for i := range api.MaxFiles {
		errno(t, "Append", d.Append(fmt.Sprint("f", i), []byte("x")), api.OK)
	}
	errno(t, "Append to one more", d.Append("g", []byte("x")), api.ErrFull)
	errno(t, "Append to a name that may not be", d.Append("G", []byte("x")), api.ErrArg)
	errno(t, "Append of nothing to one more", d.Append("g", nil), api.OK)
	errno(t, "Append to one that is there", d.Append("f0", []byte("x")), api.OK)
	d.Arm(0)
	errno(t, "Append to one more", d.Append("g", []byte("x")), api.ErrFull)
	if !d.On() {
		t.Error("a refused Append cuts the power")
	}
	errno(t, "Remove", d.Remove("f1"), api.OK)
	d.Arm(-1)
	errno(t, "Append to a place that became free", d.Append("g", []byte("x")), api.OK)
}

// P10.2, P10.3: what is done while the power is off, or to a file that is not there.
func TestOff(t *testing.T) {
	d := New()
	errno(t, "Sync", d.Sync("a"), api.ErrNone)
	errno(t, "Remove", d.Remove("a"), api.ErrNone)
	content(t, d, "a", "", api.ErrNone)
	d.Append("a", []byte("xy"))
	d.Crash(nil)
	errno(t, "Append", d.Append("A", nil), api.ErrDown)
	errno(t, "Sync", d.Sync("b"), api.ErrDown)
	errno(t, "Remove", d.Remove("b"), api.ErrDown)
	content(t, d, "b", "", api.ErrDown)
}

// P10.3
func TestSyncRemove(t *testing.T) {
	d := New()
	d.Append("a", []byte("xy"))
	errno(t, "Sync", d.Sync("a"), api.OK)
	d.Append("a", []byte("z"))
	if d.Loose("a") != 1 {
		t.Errorf("%d bytes are loose", d.Loose("a"))
	}
	c := d.Clone()
	d.Crash(nil)
	d.Power()
	content(t, d, "a", "xy", api.OK)
	errno(t, "Remove", c.Remove("a"), api.OK)
	c.Crash([]int{9, 9})
	c.Power()
	content(t, c, "a", "", api.ErrNone)
	c.Append("a", []byte("q"))
	if c.Loose("a") != 1 {
		t.Error("a file that comes anew has safe bytes")
	}
}

// P10.4: Arm.
func TestArm(t *testing.T) {
	d := New()
	d.Arm(1)
	errno(t, "Append", d.Append("b", []byte("pq")), api.ErrDown)
	if d.On() || d.Loose("b") != 1 {
		t.Error("the power is on, or nothing was appended")
	}
	d.Arm(0)
	d.Crash([]int{5})
	d.Power()
	content(t, d, "b", "p", api.OK)
	errno(t, "Append behind it", d.Append("b", []byte("long enough")), api.OK)
	d.Arm(3)
	errno(t, "Append of 2", d.Append("c", []byte("12")), api.OK)
	errno(t, "Append of 1", d.Append("c", []byte("3")), api.OK)
	errno(t, "Append of nothing", d.Append("c", nil), api.OK)
	errno(t, "Sync", d.Sync("c"), api.OK)
	errno(t, "Append of one more", d.Append("d", []byte("4")), api.ErrDown)
	d.Power()
	if !slices.Equal(d.Names(), []string{"b", "c"}) {
		t.Errorf("the names are %v", d.Names())
	}
	content(t, d, "b", "p", api.OK)
	content(t, d, "c", "123", api.OK)
	d.Arm(2)
	d.Arm(math.MinInt)
	errno(t, "Append when it is not armed any more", d.Append("c", []byte("4567")), api.OK)
	d.Arm(0)
	d.Crash(nil)
	d.Power()
	errno(t, "Append when a crash took the arming", d.Append("c", []byte("4567")), api.OK)
	d.Arm(0)
	d.Power()
	errno(t, "Append when Power had nothing to do", d.Append("c", []byte("4")), api.ErrDown)
	d.Power()
	errno(t, "Append when the failure took the arming", d.Append("c", []byte("4")), api.OK)
}

// P10.4: Crash counts the files that have loose bytes, in the order of their names.
func TestCrash(t *testing.T) {
	for _, x := range []struct {
		keep []int
		want string
	}{
		{nil, "A"}, {[]int{1}, "aA"}, {[]int{0, 1, 9}, "Abcc"}, {[]int{9, -1, 1}, "aaAc"}, {[]int{-1, 2}, "Abb"},
		{[]int{math.MaxInt, math.MinInt, math.MaxInt, 7}, "aaAcc"},
	} {
		d := New()
		d.Append("c1", []byte("cc"))
		d.Append("b2", []byte("bb"))
		d.Append("a9", []byte("aa"))
		d.Append("b0", []byte("A"))
		d.Sync("b0")
		d.Crash(x.keep)
		d.Crash([]int{9, 9, 9, 9})
		d.Power()
		got := ""
		for _, name := range d.Names() {
			b, _ := d.Read(name)
			got += string(b)
			if d.Loose(name) != 0 || len(b) == 0 {
				t.Errorf("%s has loose bytes, or none at all", name)
			}
		}
		if got != x.want {
			t.Errorf("after Crash(%v) there is %q, not %q", x.keep, got, x.want)
		}
	}
}

// P10.4: Power after a failure loses what was loose, and does nothing while the power is on.
func TestPower(t *testing.T) {
	d := New()
	d.Append("a", []byte("xy"))
	d.Power()
	if d.Loose("a") != 2 {
		t.Error("Power loses bytes while the power is on")
	}
	d.Arm(0)
	d.Append("a", []byte("z"))
	d.Power()
	content(t, d, "a", "", api.ErrNone)
}

// P10.4, R2, R5
func TestOwnMemory(t *testing.T) {
	d := New()
	b := []byte("xy")
	d.Append("a", b)
	b[0] = '!'
	c := d.Clone()
	got, _ := d.Read("a")
	got[1] = '!'
	d.Append("a", []byte("1"))
	c.Append("a", []byte("2"))
	c.Append("b", []byte("3"))
	content(t, d, "a", "xy1", api.OK)
	content(t, c, "a", "xy2", api.OK)
	d.Arm(1)
	if e := d.Clone(); e.Append("a", []byte("45")) != api.ErrDown || e.On() || !d.On() {
		t.Error("a clone is not armed, or shares its power")
	}
}

// P10.5: safe bytes survive, and of the loose ones a prefix.
func TestSurvival(t *testing.T) {
	r := rand.New(rand.NewSource(1))
	for range 300 {
		d := New()
		all, safe := map[string][]byte{}, map[string]int{}
		for range 60 {
			name := string(rune('a' + r.Intn(4)))
			switch r.Intn(8) {
			case 0:
				d.Sync(name)
				safe[name] = len(all[name])
			case 1:
				d.Remove(name)
				delete(all, name)
				delete(safe, name)
			case 2:
				d.Crash([]int{r.Intn(5) - 1, r.Intn(5) - 1, r.Intn(5) - 1})
				d.Power()
				for _, name := range []string{"a", "b", "c", "d"} {
					got, _ := d.Read(name)
					if !bytes.HasPrefix(all[name], got) || len(got) < safe[name] {
						t.Fatalf("%q survives of %q, of which %d bytes were safe", got, all[name], safe[name])
					}
					all[name], safe[name] = got, len(got)
				}
			default:
				b := make([]byte, r.Intn(5))
				r.Read(b)
				d.Append(name, b)
				all[name] = append(slices.Clone(all[name]), b...)
			}
		}
	}
}

// A disk that was not made has no power.
func TestNone(t *testing.T) {
	for _, d := range []*Disk{nil, {}} {
		d.Arm(1)
		d.Crash([]int{1})
		if d.On() || d.Names() != nil || d.Loose("a") != 0 || d.Append("a", nil) != api.ErrDown || d.Sync("a") != api.ErrDown || d.Remove("a") != api.ErrDown || d.Clone().On() {
			t.Error("a disk that was not made has power")
		}
		d.Power()
	}
	d := &Disk{}
	d.Power()
	errno(t, "Append", d.Append("a", []byte("x")), api.OK)
	content(t, d, "a", "x", api.OK)
}
