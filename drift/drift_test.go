package drift

import (
	"math"
	"math/big"
	"math/rand"
	"testing"

	"stopcock/api"
)

// P2.1
func TestMay(t *testing.T) {
	for _, x := range []struct {
		rho         int
		real, clock int64
		want        bool
	}{
		{100, 10, 9, true}, {100, 10, 8, false}, {100, 10, 11, true}, {100, 10, 12, false}, {100, 0, 0, true}, {100, 0, 1, false},
		{0, 7, 7, true}, {0, 7, 8, false}, {500, 2, 1, true}, {500, 2, 3, true}, {500, 2, 4, false},
		{-1, 0, 0, false}, {501, 0, 0, false}, {1, -1, 0, false}, {1, 0, -1, false}, {1, -1, -1, false},
		{500, 1 << 40, 1 << 40, true}, {500, 1<<40 + 1, 1 << 40, false}, {500, 1 << 40, 1<<40 + 1, false},
		{math.MinInt, math.MinInt64, math.MinInt64, false}, {0, math.MaxInt64, math.MaxInt64, false},
	} {
		if May(x.rho, x.real, x.clock) != x.want {
			t.Errorf("May(%d, %d, %d) is not %t", x.rho, x.real, x.clock, x.want)
		}
	}
}

type call struct {
	name string
	f    func(int, int64) (int64, api.Errno)
}

func calls() []call {
	return []call{{"Least", Least}, {"Most", Most}, {"Soonest", Soonest}, {"Latest", Latest}, {"Short", Short}}
}

// P2.2, P2.3, P2.4: the values, and what is no span, no rho and no lease.
func TestValues(t *testing.T) {
	of := map[string]func(int, int64) (int64, api.Errno){}
	for _, c := range calls() {
		of[c.name] = c.f
		for _, rho := range []int{-1, 501, math.MinInt, math.MaxInt} {
			if n, e := c.f(rho, 1); n != 0 || e != api.ErrArg {
				t.Errorf("%s(%d, 1) is %d, %d", c.name, rho, n, e)
			}
		}
		for _, v := range []int64{-1, 1<<40 + 1, math.MinInt64, math.MaxInt64} {
			if n, e := c.f(1, v); n != 0 || e != api.ErrArg {
				t.Errorf("%s(1, %d) is %d, %d", c.name, v, n, e)
			}
		}
	}
	for _, x := range []struct {
		name string
		rho  int
		v    int64
		want int64
		e    api.Errno
	}{
		{"Least", 100, 11, 10, api.OK}, {"Least", 100, 10, 9, api.OK}, {"Least", 0, 5, 5, api.OK}, {"Least", 500, 0, 0, api.OK},
		{"Most", 100, 11, 12, api.OK}, {"Most", 500, 1, 1, api.OK}, {"Most", 500, 1 << 40, 3 << 39, api.OK},
		{"Soonest", 100, 11, 10, api.OK}, {"Soonest", 100, 12, 11, api.OK}, {"Soonest", 500, 0, 0, api.OK},
		{"Latest", 100, 9, 10, api.OK}, {"Latest", 100, 8, 8, api.OK}, {"Latest", 500, 1 << 40, 1 << 41, api.OK},
		{"Short", 100, 1000, 818, api.OK}, {"Short", 0, 5, 5, api.OK}, {"Short", 500, 1, 0, api.OK}, {"Short", 0, 1 << 30, 1 << 30, api.OK},
		{"Short", 0, 0, 0, api.ErrArg}, {"Short", 0, 1<<30 + 1, 0, api.ErrArg},
		{"Least", 501, 1, 0, api.ErrArg}, {"Most", 1, -1, 0, api.ErrArg},
	} {
		if n, e := of[x.name](x.rho, x.v); n != x.want || e != x.e {
			t.Errorf("%s(%d, %d) is %d, %d", x.name, x.rho, x.v, n, e)
		}
	}
}

// exact divides a product of big numbers, rounded up or down.
func exact(a, b, c int64, upward bool) int64 {
	p := new(big.Int).Mul(big.NewInt(a), big.NewInt(b))
	q, m := new(big.Int).DivMod(p, big.NewInt(c), new(big.Int))
	if upward && m.Sign() != 0 {
		q.Add(q, big.NewInt(1))
	}
	return q.Int64()
}

// P2.2 to P2.4: great values do not wrap around.
func TestExact(t *testing.T) {
	r := rand.New(rand.NewSource(1))
	for range 20000 {
		rho, v := r.Intn(501), r.Int63n(1<<40+1)>>r.Intn(40)
		lease := min(v, 1<<30-1) + 1
		k := int64(rho)
		for _, x := range []struct {
			c    call
			v    int64
			want int64
		}{
			{call{"Least", Least}, v, exact(1000-k, v, 1000, true)}, {call{"Most", Most}, v, exact(1000+k, v, 1000, false)},
			{call{"Soonest", Soonest}, v, exact(1000, v, 1000+k, true)}, {call{"Latest", Latest}, v, exact(1000, v, 1000-k, false)},
			{call{"Short", Short}, lease, exact(1000-k, lease, 1000+k, false)},
		} {
			if n, e := x.c.f(rho, x.v); n != x.want || e != api.OK {
				t.Fatalf("%s(%d, %d) is %d, %d, not %d", x.c.name, rho, x.v, n, e, x.want)
			}
		}
	}
}

// P2.2, P2.3: the bounds are those of May.
func TestBounds(t *testing.T) {
	for _, rho := range []int{0, 1, 99, 100, 333, 500} {
		for v := int64(0); v < 60; v++ {
			low, _ := Least(rho, v)
			high, _ := Most(rho, v)
			soon, _ := Soonest(rho, v)
			late, _ := Latest(rho, v)
			for w := int64(0); w < 130; w++ {
				if May(rho, v, w) != (low <= w && w <= high) || May(rho, w, v) != (soon <= w && w <= late) {
					t.Fatalf("rho %d: the bounds at %d, %d are not those of May", rho, v, w)
				}
			}
		}
	}
}

// P2.5: whoever trusts for less than Short does so for less real time than a lease takes.
func TestTrust(t *testing.T) {
	for _, rho := range []int{0, 7, 100, 499, 500} {
		for lease := int64(1); lease < 400; lease++ {
			short, _ := Short(rho, lease)
			soon, _ := Soonest(rho, lease)
			if short == 0 {
				continue
			}
			if late, _ := Latest(rho, short-1); late >= soon {
				t.Fatalf("rho %d, lease %d: a holder trusts for %d, and the lease passes in %d", rho, lease, late, soon)
			}
		}
	}
}
