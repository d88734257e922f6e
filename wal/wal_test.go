package wal

import (
	"fmt"
	"math/rand"
	"slices"
	"strings"
	"testing"

	"stopcock/api"
	"stopcock/disk"
)

func long(n int) string { return strings.Repeat("r", n) }

func records(n int) []string {
	var l []string
	for i := range n {
		l = append(l, fmt.Sprint("record ", i))
	}
	return l
}

func mustMake(t *testing.T, d *disk.Disk, base ...string) *Log {
	t.Helper()
	l, e := Make(d, base)
	if l == nil || e != api.OK || l.Len() != len(base) {
		t.Fatalf("Make is %v, %d", l, e)
	}
	return l
}

func mustHave(t *testing.T, d *disk.Disk, want ...string) *Log {
	t.Helper()
	l, got, e := Open(d)
	if l == nil || e != api.OK || !slices.Equal(got, want) || l.Len() != len(want) {
		t.Fatalf("Open is %q, %d, not %q", got, e, want)
	}
	return l
}

func loose(d *disk.Disk) int {
	n := 0
	for _, name := range d.Names() {
		n += d.Loose(name)
	}
	return n
}

// P12.1
func TestMake(t *testing.T) {
	d := disk.New()
	d.Append("a", []byte("foreign"))
	d.Append("w0000000100", []byte("foreign"))
	d.Append("w0000000900", []byte("foreign"))
	mustMake(t, d, "a", "", long(api.MaxRecord))
	if loose(d) != 0 || slices.Contains(d.Names(), "a") {
		t.Error("records are loose, or a file remains")
	}
	d.Crash(nil)
	d.Power()
	mustHave(t, d, "a", "", long(api.MaxRecord))
	mustMake(t, d)
	mustHave(t, d)
	mustMake(t, d, records(200)...)
	mustHave(t, d, records(200)...)
}

// P12.1: the errors, in their order.
func TestMakeErrors(t *testing.T) {
	off := disk.New()
	off.Crash(nil)
	tooMany := append(records(200), long(8000))
	tooLong := append(records(200), long(8001))
	for i, x := range []struct {
		d    *disk.Disk
		base []string
		want api.Errno
	}{
		{nil, tooLong, api.ErrArg}, {off, tooLong, api.ErrLong}, {off, tooMany, api.ErrMany}, {off, nil, api.ErrDown}, {off, []string{"a"}, api.ErrDown},
		{disk.New(), tooLong, api.ErrLong}, {disk.New(), tooMany, api.ErrMany},
	} {
		if l, e := Make(x.d, x.base); l != nil || e != x.want {
			t.Errorf("case %d: Make is %v, %d", i, l, e)
		}
	}
	d := disk.New()
	mustMake(t, d, "old")
	Make(d, tooMany)
	mustHave(t, d, "old")
	d.Arm(3)
	if l, e := Make(d, nil); l != nil || e != api.ErrDown {
		t.Errorf("Make when the power fails is %v, %d", l, e)
	}
	d.Power()
	mustMake(t, d, "new")
	mustHave(t, d, "new")
}

// P12.2
func TestOpenErrors(t *testing.T) {
	off := disk.New()
	off.Crash(nil)
	foreign := disk.New()
	for _, name := range []string{"a", "w", "w0000000100", "w0000000101", "wzzzzzzzz00", "x0000000100"} {
		foreign.Append(name, []byte("\xff\xff\x00\x00 no frame"))
	}
	names := foreign.Names()
	for i, x := range []struct {
		d    *disk.Disk
		want api.Errno
	}{{nil, api.ErrArg}, {off, api.ErrDown}, {disk.New(), api.ErrDevice}, {foreign, api.ErrDevice}} {
		if l, r, e := Open(x.d); l != nil || len(r) != 0 || e != x.want {
			t.Errorf("case %d: Open is %v, %q, %d", i, l, r, e)
		}
	}
	if !slices.Equal(foreign.Names(), names) {
		t.Error("Open of no log deletes files")
	}
}

// P12.2, P12.3: what was appended is there, and after Open it is safe.
func TestAppend(t *testing.T) {
	d := disk.New()
	l := mustMake(t, d, "a")
	for i, rec := range []string{"b", "", long(8000)} {
		if e := l.Append(rec); e != api.OK || l.Len() != i+2 {
			t.Errorf("Append is %d, and there are %d records", e, l.Len())
		}
	}
	if e := l.Append(long(8001)); e != api.ErrLong || l.Len() != 4 {
		t.Errorf("Append of too long a record is %d", e)
	}
	mustHave(t, d, "a", "b", "", long(8000))
	if loose(d) != 0 {
		t.Error("bytes are loose after Open")
	}
	d.Crash(nil)
	if e := l.Append(long(8001)); e != api.ErrLong {
		t.Errorf("Append of too long a record is %d", e)
	}
	if l.Append("x") != api.ErrDown || l.Sync() != api.ErrDown || l.Roll(nil) != api.ErrDown || l.Len() != 4 {
		t.Errorf("a call works while the power is off")
	}
	d.Power()
	l = mustHave(t, d, "a", "b", "", long(8000))
	d.Arm(2)
	if e := l.Append("x"); e != api.ErrDown || l.Len() != 4 {
		t.Errorf("Append when the power fails is %d", e)
	}
}

// P12.3: the document's example.
func TestSync(t *testing.T) {
	d := disk.New()
	l := mustMake(t, d, "a")
	l.Append("b")
	if e := l.Sync(); e != api.OK || loose(d) != 0 {
		t.Errorf("Sync is %d", e)
	}
	l.Append("c")
	d.Crash(nil)
	d.Power()
	l = mustHave(t, d, "a", "b")
	if e := l.Roll([]string{"x"}); e != api.OK || l.Len() != 1 || loose(d) != 0 {
		t.Errorf("Roll is %d", e)
	}
	d.Crash(nil)
	d.Power()
	mustHave(t, d, "x")
}

// P12.4
func TestRoll(t *testing.T) {
	d := disk.New()
	l := mustMake(t, d, records(150)...)
	if l.Roll(append(records(200), long(8001))) != api.ErrLong || l.Roll(records(201)) != api.ErrMany || l.Len() != 150 {
		t.Error("Roll of too much is no error, or changes something")
	}
	for i := range 20 {
		if e := l.Roll(records(10 * i)); e != api.OK {
			t.Fatalf("Roll is %d", e)
		}
		l.Append("more")
		if len(d.Names()) > api.MaxFiles {
			t.Fatalf("there are %d files", len(d.Names()))
		}
	}
	mustHave(t, d, append(records(190), "more")...)
}

// A log has several segments, but never too many files.
func TestSegments(t *testing.T) {
	d := disk.New()
	l := mustMake(t, d)
	all := records(1500)
	for i, rec := range all {
		if e := l.Append(rec); e != api.OK {
			t.Fatalf("Append %d is %d", i, e)
		}
		if i == 100 && len(d.Names()) < 4 {
			t.Errorf("100 records lie in %d files", len(d.Names()))
		}
	}
	for range 3 {
		l = mustHave(t, d, all...)
		if e := l.Append("one"); e != api.OK || len(d.Names()) > api.MaxFiles {
			t.Fatalf("Append is %d, and there are %d files", e, len(d.Names()))
		}
		all = append(all, "one")
	}
	if e := l.Roll(all[:200]); e != api.OK {
		t.Fatalf("Roll is %d", e)
	}
	mustHave(t, d, all[:200]...)
}

// Of two generations that are whole, the later one is the log.
func TestTwoGenerations(t *testing.T) {
	d := disk.New()
	l := mustMake(t, d, "old")
	for range 40 {
		old := d.Clone()
		l.Append("older")
		l.Roll([]string{"new"})
		both := d.Clone()
		for _, name := range old.Names() {
			b, _ := old.Read(name)
			both.Append(name, b)
		}
		if len(both.Names()) != 2 {
			t.Fatalf("the files are %v", both.Names())
		}
		mustHave(t, both, "new")
		if len(both.Names()) != 1 {
			t.Errorf("the files are %v", both.Names())
		}
	}
}

// A log that was never made does nothing.
func TestNoLog(t *testing.T) {
	for _, l := range []*Log{nil, {}} {
		if l.Append("a") != api.ErrArg || l.Sync() != api.ErrArg || l.Roll(nil) != api.ErrArg || l.Len() != 0 {
			t.Error("a log that was not made does something")
		}
	}
}

// model is what may be found on a disk: as many of the records as are safe, or more; or those of a Roll.
type model struct {
	all  []string
	safe int
	base []string // of a Roll that failed
	roll bool
}

func (m model) allows(got []string) bool {
	if m.roll && slices.Equal(got, m.base) {
		return true
	}
	return len(got) >= m.safe && len(got) <= len(m.all) && slices.Equal(got, m.all[:len(got)])
}

func keeps(r *rand.Rand) []int {
	var keep []int
	for range r.Intn(4) {
		keep = append(keep, r.Intn(60)-5)
	}
	return keep
}

// step does something to a log, and keeps the model in step; false if the power failed.
func (m *model) step(r *rand.Rand, l *Log, next func() string) bool {
	switch r.Intn(6) {
	case 0:
		if l.Sync() != api.OK {
			return false
		}
		m.safe = len(m.all)
	case 1:
		m.base = nil
		for range r.Intn(30) {
			m.base = append(m.base, next())
		}
		if l.Roll(m.base) != api.OK {
			m.roll = true
			return false
		}
		m.all, m.safe = m.base, len(m.base)
	default:
		rec := next()
		e := l.Append(rec)
		m.all = append(slices.Clone(m.all), rec)
		return e == api.OK
	}
	return true
}

// P12.5: wherever the power fails, also while Open runs.
func TestRecovery(t *testing.T) {
	r := rand.New(rand.NewSource(1))
	many := 0
	next := func() string {
		many++
		return fmt.Sprint(many, " ", long(r.Intn(90)))
	}
	for range 400 {
		d := disk.New()
		m := model{all: []string{next(), next()}, safe: 2}
		l := mustMake(t, d, m.all...)
		for range 12 {
			if r.Intn(4) > 0 {
				d.Arm(r.Intn(400))
			}
			for range r.Intn(25) {
				if !m.step(r, l, next) {
					break
				}
			}
			d.Crash(keeps(r))
			d.Power()
			for r.Intn(2) == 0 {
				d.Arm(r.Intn(300))
				if _, _, e := Open(d); e == api.OK {
					break
				} else if e != api.ErrDown {
					t.Fatalf("Open is %d", e)
				}
				d.Crash(keeps(r))
				d.Power()
			}
			d.Arm(-1)
			again, got, e := Open(d)
			if e != api.OK || !m.allows(got) || loose(d) != 0 || len(d.Names()) > api.MaxFiles {
				t.Fatalf("Open is %q, %d, with %d safe of %q", got, e, m.safe, m.all)
			}
			l, m = again, model{all: got, safe: len(got)}
		}
	}
}

// P12.5: a Roll is cut at every byte, and so is the Open behind it.
func TestEveryByte(t *testing.T) {
	first := disk.New()
	l := mustMake(t, first, records(10)...)
	l.Append("loose")
	m := model{all: append(records(10), "loose"), safe: 10, base: []string{"new", "newer", long(300), "newest"}, roll: true}
	for n := 0; ; n++ {
		d := first.Clone()
		l, _, e := Open(d)
		if e != api.OK || l.Append("loose") != api.OK {
			t.Fatal("the log is not there")
		}
		m.all, m.safe = append(records(10), "loose", "loose"), 11
		d.Arm(n)
		e = l.Roll(m.base)
		if e == api.OK {
			break
		}
		d.Crash([]int{n % 7 * 20, n % 3 * 20})
		d.Power()
		d.Arm(n / 2)
		Open(d)
		d.Crash([]int{n % 5 * 9})
		d.Power()
		if _, got, e := Open(d); e != api.OK || !m.allows(got) {
			t.Fatalf("cut behind %d bytes: Open is %q, %d", n, got, e)
		}
	}
}
