package lease

import (
	"math"
	"math/rand"
	"reflect"
	"slices"
	"testing"

	"stopcock/api"
	"stopcock/drift"
	"stopcock/ledger"
)

func held(token int, serial, stamp uint64) api.Held {
	return api.Held{Token: token, Node: 1, Boot: 1, Serial: serial, Stamp: stamp}
}

func rows(l ...api.Held) api.Ledger { return api.Ledger{Limit: 9, Next: 99, Held: l} }

func reclaim(token int, serial, stamp uint64) api.Cmd {
	return api.Cmd{Kind: api.Reclaim, Token: token, Serial: serial, Stamp: stamp}
}

func due(t *testing.T, k *Keeper, now int64, want ...api.Cmd) {
	t.Helper()
	if got := k.Due(now); len(got)+len(want) > 0 && !reflect.DeepEqual(got, want) {
		t.Fatalf("Due(%d) is %v, not %v", now, got, want)
	}
}

// P17.1
func TestNewKeeper(t *testing.T) {
	for _, lease := range []int64{0, -1, 1<<30 + 1, math.MinInt64, math.MaxInt64} {
		if k, e := NewKeeper(lease); k != nil || e != api.ErrArg {
			t.Errorf("NewKeeper(%d) is %v, %d", lease, k, e)
		}
	}
	for _, lease := range []int64{1, 1 << 30} {
		k, e := NewKeeper(lease)
		if e != api.OK {
			t.Errorf("NewKeeper(%d) is %d", lease, e)
		}
		due(t, k, math.MaxInt64)
	}
}

// P17.1, P17.2
func TestKeeper(t *testing.T) {
	k, _ := NewKeeper(10)
	one, two := held(1, 1, 3), held(2, 2, 4)
	k.Leads(5, rows(one))
	due(t, k, 14)
	due(t, k, 15, reclaim(1, 1, 3))
	due(t, k, 16)
	due(t, k, 24)
	due(t, k, 25, reclaim(1, 1, 3))
	k.Sees(27, rows(one, two))
	due(t, k, 34)
	due(t, k, 37, reclaim(1, 1, 3), reclaim(2, 2, 4))
	// Another Stamp, another Serial: another row. One that went does not come back as it was.
	k.Sees(40, rows(held(1, 1, 5), held(2, 3, 4)))
	due(t, k, 49)
	k.Sees(50, rows())
	k.Sees(51, rows(held(1, 1, 5)))
	due(t, k, 60)
	due(t, k, 61, reclaim(1, 1, 5))
	// Who leads anew waits a whole lease.
	k.Sees(62, rows(one))
	k.Leads(70, rows(one, two))
	due(t, k, 79)
	due(t, k, 80, reclaim(1, 1, 3), reclaim(2, 2, 4))
	// In the order of Held, and with whatever time.
	k.Leads(-5, rows(two, one))
	due(t, k, 9)
	due(t, k, 10, reclaim(2, 2, 4), reclaim(1, 1, 3))
	k.Leads(math.MaxInt64, rows(one))
	due(t, k, math.MinInt64)
	due(t, k, math.MaxInt64)
	k.Leads(1<<62-10, rows(one))
	due(t, k, math.MaxInt64, reclaim(1, 1, 3))
	due(t, k, math.MaxInt64)
}

// P17.2: a Node or a Boot does not make another row.
func TestSameRow(t *testing.T) {
	k, _ := NewKeeper(10)
	k.Leads(0, rows(held(1, 1, 3)))
	k.Sees(5, rows(api.Held{Token: 1, Node: 7, Boot: 9, Serial: 1, Stamp: 3}))
	due(t, k, 10, reclaim(1, 1, 3))
}

// R2, R5
func TestKeeperClone(t *testing.T) {
	k, _ := NewKeeper(10)
	l := rows(held(1, 1, 3))
	k.Leads(0, l)
	l.Held[0].Token = 77
	c := k.Clone()
	due(t, k, 10, reclaim(1, 1, 3))
	due(t, c, 11, reclaim(1, 1, 3))
	c.Leads(0, rows())
	due(t, k, 20, reclaim(1, 1, 3))
	due(t, c, 99)
}

func grant() api.Cmd { return api.Cmd{Kind: api.Grant, Node: 1, Boot: 1, Seq: 1} }

func renew(token int, serial uint64) api.Cmd {
	return api.Cmd{Kind: api.Renew, Node: 1, Boot: 1, Seq: 1, Token: token, Serial: serial}
}

func release(token int, serial uint64) api.Cmd {
	return api.Cmd{Kind: api.Release, Node: 1, Boot: 1, Seq: 1, Token: token, Serial: serial}
}

func trusts(t *testing.T, what string, got []Trust, want ...Trust) {
	t.Helper()
	if len(got)+len(want) > 0 && !slices.Equal(got, want) {
		t.Fatalf("%s is %v, not %v", what, got, want)
	}
}

func get(t *testing.T, w *Wallet, c api.Cmd, a api.Answer) {
	t.Helper()
	if e := w.Ask(c); e != api.OK {
		t.Fatalf("Ask(%v) is %d", c, e)
	}
	if e := w.Told(a); e != api.OK {
		t.Fatalf("Told(%v) is %d", a, e)
	}
}

func granted(token int, serial uint64) api.Answer {
	return api.Answer{Code: api.Granted, Token: token, Serial: serial}
}

func mustWallet(t *testing.T, short int64) *Wallet {
	t.Helper()
	w, e := NewWallet(short)
	if e != api.OK || len(w.All()) != 0 {
		t.Fatalf("NewWallet(%d) is %d", short, e)
	}
	return w
}

// P17.3
func TestNewWallet(t *testing.T) {
	for _, short := range []int64{-1, 1<<30 + 1, math.MinInt64, math.MaxInt64} {
		if w, e := NewWallet(short); w != nil || e != api.ErrArg {
			t.Errorf("NewWallet(%d) is %v, %d", short, w, e)
		}
	}
	w := mustWallet(t, 0)
	get(t, w, grant(), granted(1, 1))
	trusts(t, "All", w.All())
	mustWallet(t, 1<<30)
}

// P17.3
func TestAt(t *testing.T) {
	w := mustWallet(t, 8)
	trusts(t, "At", w.At(5))
	get(t, w, grant(), granted(1, 1))
	trusts(t, "All", w.All(), Trust{1, 1, 13})
	w.At(7)
	get(t, w, grant(), granted(9, 2))
	get(t, w, grant(), granted(4, 3))
	trusts(t, "At", w.At(12))
	trusts(t, "All", w.All(), Trust{1, 1, 13}, Trust{4, 3, 15}, Trust{9, 2, 15})
	trusts(t, "At", w.At(13), Trust{1, 1, 13})
	trusts(t, "At before", w.At(3))
	trusts(t, "At before all", w.At(math.MinInt64))
	trusts(t, "At", w.At(math.MaxInt64), Trust{4, 3, 15}, Trust{9, 2, 15})
	get(t, w, grant(), granted(2, 4))
	trusts(t, "All", w.All(), Trust{2, 4, 1<<62 + 8})
	trusts(t, "At the end", w.At(math.MaxInt64))
	w = mustWallet(t, 8)
	w.At(-9)
	get(t, w, grant(), granted(1, 1))
	trusts(t, "All", w.All(), Trust{1, 1, 8})
}

// P17.4
func TestAsk(t *testing.T) {
	w := mustWallet(t, 8)
	for _, c := range []api.Cmd{{}, {Kind: api.Noop}, {Kind: api.Conf, Nodes: []int{1}}, reclaim(1, 1, 1), {Kind: api.Grant}, {Kind: api.Renew, Node: 1, Boot: 1, Seq: 1}} {
		if e := w.Ask(c); e != api.ErrCmd {
			t.Errorf("Ask(%v) is %d", c, e)
		}
	}
	if c, ok := w.Asked(); !reflect.DeepEqual(c, api.Cmd{}) || ok {
		t.Errorf("Asked is %v, %t", c, ok)
	}
	if e := w.Told(granted(1, 1)); e != api.ErrState || len(w.All()) != 0 {
		t.Errorf("Told of nothing is %d", e)
	}
	for _, c := range []api.Cmd{grant(), renew(1, 1), release(1, 1)} {
		if e := w.Ask(c); e != api.OK {
			t.Errorf("Ask(%v) is %d", c, e)
		}
		if w.Ask(c) != api.ErrState || w.Ask(reclaim(1, 1, 1)) != api.ErrCmd {
			t.Error("a second request is taken")
		}
		for range 2 {
			if got, ok := w.Asked(); !reflect.DeepEqual(got, c) || !ok {
				t.Errorf("Asked is %v, %t", got, ok)
			}
		}
		if e := w.Told(api.Answer{Code: api.Stale}); e != api.OK || w.Told(api.Answer{}) != api.ErrState {
			t.Errorf("Told is %d", e)
		}
		if _, ok := w.Asked(); ok {
			t.Error("a request is pending behind its outcome")
		}
	}
}

// P17.5: the trust counts from when the request was made.
func TestTold(t *testing.T) {
	w := mustWallet(t, 8)
	w.At(5)
	w.Ask(grant())
	w.At(12)
	w.Told(granted(3, 7))
	trusts(t, "All", w.All(), Trust{3, 7, 13})
	w.Ask(renew(3, 7))
	w.At(12)
	w.Told(api.Answer{Code: api.Renewed})
	trusts(t, "All after Renewed", w.All(), Trust{3, 7, 20})
	w.Ask(grant())
	w.At(20)
	w.Told(granted(4, 8))
	trusts(t, "All after a late Granted", w.All())
	get(t, w, grant(), granted(4, 8))
	get(t, w, grant(), granted(4, 9))
	trusts(t, "All after two", w.All(), Trust{4, 9, 28})
	// A Renew that was made before does not shorten the trust.
	w = mustWallet(t, 8)
	w.At(5)
	w.Ask(renew(4, 9))
	c := w.Clone()
	c.Told(api.Answer{Code: api.Renewed})
	trusts(t, "All of a clone that trusts nothing", c.All())
	w.At(6)
	w.trusts[4] = Trust{4, 9, 14}
	w.Told(api.Answer{Code: api.Renewed})
	trusts(t, "All after an early Renewed", w.All(), Trust{4, 9, 14})
}

// P17.5: which Code counts for which request.
func TestCodes(t *testing.T) {
	for kind, want := range map[int]map[int][]Trust{
		api.Grant:   {api.Granted: {{2, 5, 11}, {3, 7, 8}}},
		api.Renew:   {api.Renewed: {{3, 7, 11}}, api.Gone: nil},
		api.Release: {api.Freed: nil},
	} {
		for code := -1; code <= 8; code++ {
			w := mustWallet(t, 8)
			get(t, w, grant(), granted(3, 7))
			w.At(3)
			c := map[int]api.Cmd{api.Grant: grant(), api.Renew: renew(3, 7), api.Release: release(3, 7)}[kind]
			get(t, w, c, api.Answer{Code: code, Token: 2, Serial: 5})
			after, ok := want[code]
			if !ok {
				after = []Trust{{3, 7, 8}}
			}
			trusts(t, "All", w.All(), after...)
			// A request for another Serial changes nothing.
			w = mustWallet(t, 8)
			get(t, w, grant(), granted(3, 7))
			w.At(3)
			if c.Serial = 6; kind != api.Grant {
				get(t, w, c, api.Answer{Code: code})
				trusts(t, "All", w.All(), Trust{3, 7, 8})
			}
		}
	}
}

// P17.5
func TestDrop(t *testing.T) {
	w := mustWallet(t, 8)
	get(t, w, grant(), granted(3, 7))
	for _, token := range []int{0, 2, -1, math.MaxInt} {
		if e := w.Drop(token); e != api.ErrNone {
			t.Errorf("Drop(%d) is %d", token, e)
		}
	}
	if w.Drop(3) != api.OK || w.Drop(3) != api.ErrNone || len(w.All()) != 0 {
		t.Error("Drop does not drop")
	}
}

// R2, R5
func TestWalletClone(t *testing.T) {
	w := mustWallet(t, 8)
	get(t, w, grant(), granted(3, 7))
	c := grant()
	c.Nodes = make([]int, 0, 4)
	w.Ask(c)
	if got, _ := w.Asked(); cap(got.Nodes) != 0 {
		t.Error("the request shares memory")
	}
	v := w.Clone()
	w.All()[0].Token = 77
	w.Told(granted(4, 8))
	v.At(4)
	v.Told(granted(5, 9))
	trusts(t, "All", w.All(), Trust{3, 7, 8}, Trust{4, 8, 8})
	trusts(t, "All of the clone", v.All(), Trust{3, 7, 8}, Trust{5, 9, 8})
}

// What was not made answers nothing.
func TestNone(t *testing.T) {
	var k *Keeper
	k.Leads(1, rows())
	k.Sees(1, rows())
	var w *Wallet
	if k.Due(1) != nil || k.Clone() != nil || w.At(1) != nil || w.All() != nil || w.Clone() != nil || w.Ask(grant()) == api.OK || w.Told(api.Answer{}) == api.OK || w.Drop(1) == api.OK {
		t.Error("what was not made answers something")
	}
}

// P17.6: whoever's clock runs wrong, nobody trusts a token that is reclaimed.
func TestReclaimed(t *testing.T) {
	r := rand.New(rand.NewSource(1))
	reclaims := 0
	for range 300 {
		rho := []int{0, 100, 500}[r.Intn(3)]
		lease := int64(20 + r.Intn(80))
		short, _ := drift.Short(rho, lease)
		k, _ := NewKeeper(lease)
		w := mustWallet(t, short)
		l, _ := ledger.New(3)
		mine, theirs := int64(0), int64(0)
		k.Leads(theirs, l)
		seq, index := uint64(0), uint64(0)
		apply := func(c api.Cmd) api.Answer {
			index++
			next, a, _ := ledger.Apply(l, index, c)
			l = next
			return a
		}
		for range 200 {
			real := int64(r.Intn(20))
			low, _ := drift.Least(rho, real)
			high, _ := drift.Most(rho, real)
			mine += []int64{low, high}[r.Intn(2)]
			theirs += []int64{low, high}[r.Intn(2)]
			w.At(mine)
			for _, c := range k.Due(theirs) {
				if apply(c).Code != api.Freed {
					continue
				}
				reclaims++
				for _, x := range w.All() {
					if x.Token == c.Token && x.Serial == c.Serial {
						t.Fatalf("%v is reclaimed, and %v trusted at %d", c, x, mine)
					}
				}
			}
			k.Sees(theirs, l)
			c, pending := w.Asked()
			if !pending {
				seq++
				c = api.Cmd{Kind: api.Grant, Node: 1, Boot: 1, Seq: seq}
				if all := w.All(); len(all) > 0 && r.Intn(2) == 0 {
					c = api.Cmd{Kind: api.Renew, Node: 1, Boot: 1, Seq: seq, Token: all[0].Token, Serial: all[0].Serial}
				}
				w.Ask(c)
			}
			if r.Intn(2) == 0 {
				a := apply(c)
				k.Sees(theirs, l)
				if r.Intn(3) > 0 {
					w.Told(a)
				}
			}
		}
	}
	if reclaims < 300 {
		t.Errorf("only %d tokens were reclaimed", reclaims)
	}
}
