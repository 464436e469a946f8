package tree

import (
	"math"
	"math/rand"
	"slices"
	"testing"

	"postilion/api"
)

// P12.1: which parents make a tree.
func TestCheck(t *testing.T) {
	line := make([]int, api.MaxBrokers+1)
	for i := range line {
		line[i] = i - 1
	}
	for i, p := range [][]int{{-1}, {-1, 0}, {-1, 0, 0, 1}, {-1, 0, 1, 2, 0}, line[:api.MaxBrokers]} {
		if told := Check(p); told != api.OK {
			t.Errorf("%d is told %d", i, told)
		}
	}
	for i, p := range [][]int{nil, {}, {0}, {-2}, {1, -1}, {-1, -1}, {-1, 1}, {-1, 0, 2}, {-1, 0, 3}, {-1, 0, -1}, {-1, math.MinInt}, {-1, math.MaxInt}, line} {
		if told := Check(p); told != api.ErrTree {
			t.Errorf("%d, that makes none, is told %d", i, told)
		}
	}
}

// P12.2: kids, forebears and depths.
func TestKids(t *testing.T) {
	parents := []int{-1, 0, 0, 1, 1, 3}
	for n, want := range map[int][]int{0: {1, 2}, 1: {3, 4}, 2: nil, 3: {5}, 5: nil, -1: nil, 6: nil, math.MinInt: nil, math.MaxInt: nil} {
		if l := Kids(parents, n); !slices.Equal(l, want) {
			t.Errorf("of %d: %v", n, l)
		}
	}
	for n, want := range map[int]int{0: 0, 1: 1, 2: 1, 3: 2, 5: 3, -1: -1, 6: -1, math.MinInt: -1, math.MaxInt: -1} {
		if d := Depth(parents, n); d != want {
			t.Errorf("%d is %d deep", n, d)
		}
	}
	ups := [][]int{{0}, {0, 1}, {0, 2}, {0, 1, 3}, {0, 1, 4}, {0, 1, 3, 5}}
	for a := -2; a < 8; a++ {
		for b := -2; b < 8; b++ {
			want := b >= 0 && b < 6 && slices.Contains(ups[b], a)
			if Up(parents, a, b) != want {
				t.Errorf("%d above %d: %v", a, b, !want)
			}
		}
	}
	if Up(parents, math.MinInt, math.MaxInt) || Up(parents, 0, math.MaxInt) || Up(parents, 0, 6) || Up(nil, 0, 0) {
		t.Error("no brokers")
	}
}

// P12.3: ways and their first steps.
func TestWay(t *testing.T) {
	parents := []int{-1, 0, 0, 1, 1, 3}
	for _, way := range [][]int{{3, 1, 0, 2}, {0}, {5}, {5, 3}, {3, 5}, {0, 1, 3, 5}, {5, 3, 1, 4}, {4, 1}, {2, 0, 1, 4}} {
		a, b := way[0], way[len(way)-1]
		if l, told := Way(parents, a, b); told != api.OK || !slices.Equal(l, way) {
			t.Errorf("from %d to %d: %v, %d", a, b, l, told)
		}
		step, told := Step(parents, a, b)
		if a == b && (step != 0 || told != api.ErrArg) || a != b && (step != way[1] || told != api.OK) {
			t.Errorf("from %d to %d: %d, %d", a, b, step, told)
		}
	}
	for _, c := range [][2]int{{-1, 0}, {0, -1}, {6, 0}, {0, 6}, {-1, -1}, {math.MaxInt, math.MinInt}} {
		l, told := Way(parents, c[0], c[1])
		step, told2 := Step(parents, c[0], c[1])
		if len(l) != 0 || told != api.ErrArg || step != 0 || told2 != api.ErrArg {
			t.Errorf("%v: %v, %d, %d, %d", c, l, told, step, told2)
		}
	}
}

// P12.4: a way turned about is the way back; each broker but the root is one broker's kid.
func TestAnyTree(t *testing.T) {
	r := rand.New(rand.NewSource(12))
	for range 200 {
		parents := []int{-1}
		for range r.Intn(api.MaxBrokers) {
			parents = append(parents, r.Intn(len(parents)))
		}
		var all []int
		for a := range parents {
			all = append(all, Kids(parents, a)...)
			for b := range parents {
				way, _ := Way(parents, a, b)
				back, _ := Way(parents, b, a)
				slices.Reverse(back)
				if !slices.Equal(way, back) || way[0] != a || way[len(way)-1] != b {
					t.Fatalf("%v: from %d to %d: %v, back %v", parents, a, b, way, back)
				}
				for i, n := range way[1:] {
					if parents[n] != way[i] && parents[way[i]] != n || slices.Contains(way[:i+1], n) {
						t.Fatalf("%v: from %d to %d: %v", parents, a, b, way)
					}
				}
			}
		}
		slices.Sort(all)
		for i, n := range all {
			if n != i+1 || len(all) != len(parents)-1 {
				t.Fatalf("%v: kids %v", parents, all)
			}
		}
	}
}

// R1: parents that make no tree end, too.
func TestNoTree(t *testing.T) {
	r := rand.New(rand.NewSource(121))
	for range 500 {
		parents := make([]int, r.Intn(6))
		for i := range parents {
			parents[i] = r.Intn(9) - 2
		}
		for a := -1; a < 7; a++ {
			Kids(parents, a)
			Depth(parents, a)
			for b := -1; b < 7; b++ {
				Up(parents, a, b)
				Way(parents, a, b)
				Step(parents, a, b)
			}
		}
	}
	long := make([]int, 1<<20)
	for i := range long {
		long[i] = i - 1
	}
	if way, told := Way(long, len(long)-1, 0); told != api.OK || len(way) != len(long) {
		t.Errorf("a long way has %d", len(way))
	}
}

// R4: answers are new memory.
func TestOwnMemory(t *testing.T) {
	parents := []int{-1, 0, 0, 1}
	kids, _ := Kids(parents, 0), Kids(parents, 1)
	way, _ := Way(parents, 3, 2)
	clear(kids[:cap(kids)])
	clear(way[:cap(way)])
	if !slices.Equal(parents, []int{-1, 0, 0, 1}) {
		t.Errorf("now %v", parents)
	}
}
