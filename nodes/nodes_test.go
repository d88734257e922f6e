package nodes

import (
	"maps"
	"math"
	"math/rand"
	"slices"
	"testing"

	"stopcock/api"
)

// all returns all sets of nodes.
func all() [][]int {
	var sets [][]int
	for bits := 1; bits < 1<<api.MaxNodes; bits++ {
		var l []int
		for n := range api.MaxNodes {
			if bits>>n&1 == 1 {
				l = append(l, n+1)
			}
		}
		sets = append(sets, l)
	}
	return sets
}

func wrong() [][]int {
	return [][]int{nil, {}, {0}, {8}, {3, 1}, {1, 1}, {1, 2, 2}, {-1, 1}, {1, 8}, {math.MinInt}, {math.MaxInt}, {1, 2, 3, 4, 5, 6, 7, 8}}
}

// P3.1
func TestCheck(t *testing.T) {
	for _, l := range all() {
		if Check(l) != api.OK {
			t.Errorf("Check(%v) is %d", l, Check(l))
		}
	}
	for _, l := range wrong() {
		if Check(l) != api.ErrArg {
			t.Errorf("Check(%v) is %d", l, Check(l))
		}
	}
}

// P3.2
func TestHasOthers(t *testing.T) {
	l := []int{9, 3, -1, 3}
	if !Has(l, 3) || !Has(l, -1) || !Has(l, 9) || Has(l, 1) || Has(nil, 0) {
		t.Error("Has is wrong")
	}
	for _, x := range []struct {
		n    int
		want []int
	}{{3, []int{9, -1}}, {1, []int{9, 3, -1, 3}}, {9, []int{3, -1, 3}}} {
		got := Others(l, x.n)
		if !slices.Equal(got, x.want) {
			t.Errorf("Others(%v, %d) is %v", l, x.n, got)
		}
		got[0] = 77
	}
	if !slices.Equal(l, []int{9, 3, -1, 3}) || len(Others(nil, 1)) != 0 || len(Others([]int{2}, 2)) != 0 {
		t.Error("Others is wrong, or shares its argument's memory")
	}
}

// P3.3
func TestMajority(t *testing.T) {
	for _, x := range []struct {
		l, votes []int
		want     bool
	}{
		{[]int{1, 2, 3}, []int{3, 3, 9}, false}, {[]int{1, 2, 3}, []int{3, 1}, true}, {[]int{1, 2}, []int{2}, false},
		{[]int{1, 2}, []int{2, 1}, true}, {[]int{5}, []int{5}, true}, {[]int{5}, nil, false}, {[]int{1, 2, 3}, []int{4, 5, 6, 7}, false},
		{[]int{1, 2, 3, 4}, []int{1, 2, 2, 1, 5}, false}, {[]int{1, 2, 3, 4}, []int{1, 2, 4}, true}, {[]int{1}, []int{math.MinInt, math.MaxInt, -1, 0, 8}, false},
	} {
		if Majority(x.l, x.votes) != x.want {
			t.Errorf("Majority(%v, %v) is not %t", x.l, x.votes, x.want)
		}
	}
	for _, l := range wrong() {
		if Majority(l, []int{1, 2, 3, 4, 5, 6, 7, 8, 0, -1}) {
			t.Errorf("Majority(%v, ..) is true", l)
		}
	}
}

// P3.4
func TestSteps(t *testing.T) {
	for _, a := range all() {
		for _, b := range all() {
			differ := 0
			for n := 1; n <= api.MaxNodes; n++ {
				if Has(a, n) != Has(b, n) {
					differ++
				}
			}
			if Steps(a, b) != (differ == 1) {
				t.Fatalf("Steps(%v, %v) is %t", a, b, Steps(a, b))
			}
		}
		for _, b := range wrong() {
			if Steps(a, b) || Steps(b, a) {
				t.Fatalf("Steps of %v and %v is true", a, b)
			}
		}
	}
	if Steps([]int{1}, nil) || Steps(nil, []int{1}) || Steps([]int{1}, []int{1, 8}) || Steps([]int{2}, []int{2, 2}) {
		t.Error("a list that is no set is a step away")
	}
}

// P3.5
func TestMid(t *testing.T) {
	if Mid([]int{1, 2, 3}, map[int]uint64{1: 9, 3: 4}) != 4 || Mid([]int{1, 2}, map[int]uint64{1: 9}) != 0 || Mid([]int{4}, map[int]uint64{4: 1<<64 - 1}) != 1<<64-1 || Mid([]int{1}, nil) != 0 {
		t.Error("the examples' results are others")
	}
	for _, l := range wrong() {
		if Mid(l, map[int]uint64{0: 5, 1: 5, 2: 5, 3: 5, 8: 5, -1: 5}) != 0 {
			t.Errorf("Mid(%v, ..) is not 0", l)
		}
	}
	r := rand.New(rand.NewSource(1))
	for _, l := range all() {
		at := map[int]uint64{9: 100, 0: 100}
		for n := 1; n <= api.MaxNodes; n++ {
			if r.Intn(4) > 0 {
				at[n] = uint64(r.Intn(6))
			}
		}
		before := maps.Clone(at)
		got := Mid(l, at)
		for v := uint64(0); v < 8; v++ {
			n := 0
			for _, x := range l {
				if at[x] >= v {
					n++
				}
			}
			if (2*n > len(l)) != (v <= got) {
				t.Fatalf("Mid(%v, %v) is %d", l, at, got)
			}
		}
		if !maps.Equal(at, before) {
			t.Fatal("Mid changes its argument")
		}
	}
}

// P3.6
func TestCommonNode(t *testing.T) {
	sets := all()
	for _, a := range sets {
		for _, b := range sets {
			if !Steps(a, b) && !slices.Equal(a, b) {
				continue
			}
			for _, v := range sets {
				var rest []int
				for n := 1; n <= api.MaxNodes; n++ {
					if !Has(v, n) {
						rest = append(rest, n)
					}
				}
				if Majority(a, v) && Majority(b, rest) {
					t.Fatalf("%v is a majority of %v, and %v of %v", v, a, rest, b)
				}
			}
		}
	}
}
