package keep

import (
	"math/rand"
	"reflect"
	"testing"

	"stopcock/api"
	"stopcock/disk"
	"stopcock/hard"
	"stopcock/shot"
	"stopcock/values"
	"stopcock/wal"
)

func picture(index, term uint64) api.Shot {
	s, _ := shot.New(2, []int{1, 3})
	s.Index, s.Term = index, term
	return s
}

func voted(term uint64, vote int) api.Rec { return api.Rec{Kind: api.Voted, Term: term, Vote: vote} }

func added(index, term uint64) api.Rec {
	c := api.Cmd{Kind: api.Conf, Nodes: []int{1, 2}}
	return api.Rec{Kind: api.Added, Index: index, Entry: api.Entry{Term: term, Cmd: c}}
}

func mustMake(t *testing.T, s api.Shot) *disk.Disk {
	t.Helper()
	d := disk.New()
	if e := Make(d, s); e != api.OK {
		t.Fatalf("Make is %d", e)
	}
	return d
}

func mustOpen(t *testing.T, d *disk.Disk, want api.Hard) *Keep {
	t.Helper()
	k, e := Open(d)
	if e != api.OK || !same(k.Hard(), want) {
		t.Fatalf("Open is %v, %d, not %v", k.Hard(), e, want)
	}
	return k
}

// same tells whether two states are equal; nil and empty lists are.
func same(a, b api.Hard) bool {
	for _, h := range []*api.Hard{&a, &b} {
		*h = values.CopyHard(*h)
		if len(h.Log) == 0 {
			h.Log = nil
		}
	}
	return reflect.DeepEqual(a, b)
}

// P14.1
func TestMake(t *testing.T) {
	d := disk.New()
	d.Append("a", []byte("foreign"))
	if e := Make(d, picture(5, 2)); e != api.OK || len(d.Names()) != 1 || d.Names()[0] == "a" {
		t.Errorf("Make is %d, and the files are %v", e, d.Names())
	}
	d.Crash(nil)
	d.Power()
	mustOpen(t, d, api.Hard{Boot: 1, Term: 2, Shot: picture(5, 2)})
	off := disk.New()
	off.Crash(nil)
	for i, x := range []struct {
		d    *disk.Disk
		s    api.Shot
		want api.Errno
	}{
		{nil, api.Shot{}, api.ErrArg}, {off, api.Shot{}, api.ErrShot}, {off, picture(1<<62+1, 1), api.ErrShot}, {disk.New(), picture(1, 0), api.ErrShot},
		{off, picture(1<<62, 1), api.ErrDown}, {disk.New(), picture(1<<62, 1<<64-1), api.OK}, {disk.New(), picture(0, 0), api.OK},
	} {
		if e := Make(x.d, x.s); e != x.want {
			t.Errorf("case %d: Make is %d", i, e)
		}
	}
	d = disk.New()
	d.Arm(5)
	if e := Make(d, picture(5, 2)); e != api.ErrDown {
		t.Errorf("Make when the power fails is %d", e)
	}
	d.Power()
	if k, e := Open(d); k != nil || e != api.ErrDevice {
		t.Errorf("Open behind half a Make is %v, %d", k, e)
	}
}

// P14.2
func TestOpen(t *testing.T) {
	d := mustMake(t, picture(0, 0))
	for boot := uint64(1); boot < 5; boot++ {
		mustOpen(t, d, api.Hard{Boot: boot, Shot: picture(0, 0)})
		if boot%2 == 0 {
			d.Crash(nil)
			d.Power()
		}
	}
	off := disk.New()
	off.Crash(nil)
	other := disk.New()
	wal.Make(other, []string{"no record"})
	began, _ := hard.Encode(api.Rec{Kind: api.Began, Boot: 1})
	noShot := disk.New()
	wal.Make(noShot, []string{began})
	first, _ := hard.Encode(api.Rec{Kind: api.Shots, Shot: picture(0, 0)})
	bad := disk.New()
	wal.Make(bad, []string{first, began, began})
	empty := disk.New()
	wal.Make(empty, nil)
	for i, x := range []struct {
		d    *disk.Disk
		want api.Errno
	}{{nil, api.ErrArg}, {off, api.ErrDown}, {disk.New(), api.ErrDevice}, {other, api.ErrDevice}, {noShot, api.ErrDevice}, {bad, api.ErrDevice}, {empty, api.ErrDevice}} {
		if k, e := Open(x.d); k != nil || e != x.want {
			t.Errorf("case %d: Open is %v, %d", i, k, e)
		}
	}
	d.Arm(0)
	if k, e := Open(d); k != nil || e != api.ErrDown {
		t.Errorf("Open when the power fails is %v, %d", k, e)
	}
}

// P14.2: no Boot after the last one.
func TestLastBoot(t *testing.T) {
	d := mustMake(t, picture(0, 0))
	k, _ := Open(d)
	if e := k.Save([]api.Rec{{Kind: api.Began, Boot: 1<<62 - 1}}); e != api.OK {
		t.Fatalf("Save is %d", e)
	}
	k = mustOpen(t, d, api.Hard{Boot: 1 << 62, Shot: picture(0, 0)})
	for range 2 {
		if k, e := Open(d); k != nil || e != api.ErrFull {
			t.Errorf("Open is %v, %d", k, e)
		}
	}
}

// P14.3
func TestSave(t *testing.T) {
	d := mustMake(t, picture(5, 2))
	k, _ := Open(d)
	if e := k.Save(nil); e != api.OK {
		t.Errorf("Save of nothing is %d", e)
	}
	if e := k.Save([]api.Rec{voted(3, 1), added(6, 3), added(7, 3), {Kind: api.Cut, Index: 7}}); e != api.OK {
		t.Errorf("Save is %d", e)
	}
	want := api.Hard{Boot: 1, Term: 3, Vote: 1, Shot: picture(5, 2), Log: []api.Entry{added(6, 3).Entry}}
	if got := k.Hard(); !same(got, want) {
		t.Errorf("Hard is %v", got)
	}
	if e := k.Save([]api.Rec{added(7, 3), voted(3, 2)}); e != api.ErrRec || !same(k.Hard(), want) {
		t.Errorf("Save of a record that is rejected is %d", e)
	}
	d.Crash(nil)
	if k.Save([]api.Rec{voted(3, 2)}) != api.ErrRec || k.Save(nil) != api.ErrDown || k.Save([]api.Rec{added(7, 3)}) != api.ErrDown || !same(k.Hard(), want) {
		t.Error("Save while the power is off is wrong")
	}
	d.Power()
	want.Boot = 2
	k = mustOpen(t, d, want)
	got := k.Hard()
	got.Log[0].Cmd.Nodes[0], got.Shot.Nodes[0] = 77, 77
	if !same(k.Hard(), want) {
		t.Error("Hard shares its memory")
	}
	l := []api.Rec{added(7, 3), {Kind: api.Shots, Shot: picture(6, 3)}}
	k.Save(l)
	l[0].Entry.Cmd.Nodes[0], l[1].Shot.Nodes[0] = 77, 77
	want = api.Hard{Boot: 2, Term: 3, Vote: 1, Shot: picture(6, 3), Log: []api.Entry{added(7, 3).Entry}}
	if !same(k.Hard(), want) {
		t.Error("Save keeps its argument's memory")
	}
}

// P14.3: the example of the document.
func TestVote(t *testing.T) {
	d := mustMake(t, picture(0, 0))
	k, _ := Open(d)
	k.Save([]api.Rec{voted(1, 1)})
	d.Crash(nil)
	d.Power()
	mustOpen(t, d, api.Hard{Boot: 2, Term: 1, Vote: 1, Shot: picture(0, 0)})
}

// A Keep that was not opened keeps nothing.
func TestNoKeep(t *testing.T) {
	for _, k := range []*Keep{nil, {}} {
		if k.Save(nil) != api.ErrArg || !same(k.Hard(), api.Hard{}) {
			t.Error("a Keep that was not opened keeps something")
		}
	}
}

// The log does not grow for ever, whether there are more entries than it may begin with or not.
func TestLong(t *testing.T) {
	d := mustMake(t, picture(0, 0))
	k, _ := Open(d)
	h := k.Hard()
	for i := uint64(1); i <= 600; i++ {
		l := []api.Rec{voted(i, int(i%7)), added(h.Shot.Index+uint64(len(h.Log))+1, i)}
		if i%300 == 0 {
			l = append(l, api.Rec{Kind: api.Shots, Shot: picture(i, i)})
		}
		if e := k.Save(l); e != api.OK {
			t.Fatalf("Save %d is %d", i, e)
		}
		h = k.Hard()
		if k.Len() > 800 {
			t.Fatalf("behind %d saves the log has %d records", i, k.Len())
		}
	}
	h.Boot++
	mustOpen(t, d, h)
}

// steps returns the states that a Save of these records may leave behind.
func steps(h api.Hard, l []api.Rec) []api.Hard {
	states := []api.Hard{h}
	for _, r := range l {
		h, _ = hard.Do(h, r)
		states = append(states, h)
	}
	return states
}

// some returns records that follow h.
func some(r *rand.Rand, h api.Hard) []api.Rec {
	var l []api.Rec
	for range r.Intn(5) {
		last := h.Shot.Index + uint64(len(h.Log))
		rec := added(last+1, h.Term)
		switch r.Intn(6) {
		case 0:
			rec = voted(h.Term+1, r.Intn(8))
		case 1:
			rec = api.Rec{Kind: api.Cut, Index: max(last, 1)}
		case 2:
			rec = api.Rec{Kind: api.Shots, Shot: picture(last, h.Term)}
		}
		if next, e := hard.Do(h, rec); e == api.OK {
			h = next
			l = append(l, rec)
		}
	}
	return l
}

// P14.4, P14.5: wherever the power fails, also while Open runs.
func TestRecovery(t *testing.T) {
	r := rand.New(rand.NewSource(1))
	for range 150 {
		d := mustMake(t, picture(0, 0))
		may := []api.Hard{{Shot: picture(0, 0)}}
		for range 12 {
			k, opens := (*Keep)(nil), uint64(0)
			for k == nil {
				if r.Intn(3) == 0 {
					d.Arm(r.Intn(300))
				}
				var e api.Errno
				k, e = Open(d)
				opens++
				if e == api.ErrDown {
					d.Crash([]int{r.Intn(40), r.Intn(40)})
					d.Power()
				} else if e != api.OK {
					t.Fatalf("Open is %d", e)
				}
			}
			h, found := k.Hard(), false
			for _, m := range may {
				more := h.Boot - m.Boot
				m.Boot = h.Boot
				found = found || same(h, m) && more >= 1 && more <= opens
			}
			if !found {
				t.Fatalf("Open is %v, and may be %v", h, may)
			}
			may = []api.Hard{h}
			d.Arm(r.Intn(900))
			for range r.Intn(80) {
				l := some(r, h)
				if e := k.Save(l); e != api.OK {
					may = steps(h, l)
					break
				}
				h = k.Hard()
				may = []api.Hard{h}
			}
			d.Crash([]int{r.Intn(60), r.Intn(60)})
			d.Power()
		}
	}
}
