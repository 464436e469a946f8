package net

import (
	"math"
	"math/rand"
	"slices"
	"testing"

	"postilion/api"
)

// made is a net, that must be one.
func made(t *testing.T, parents ...int) *Net {
	t.Helper()
	n, told := New(parents)
	if told != api.OK || n == nil {
		t.Fatalf("%v are told %d", parents, told)
	}
	return n
}

// take takes all messages of a link.
func take(n *Net, from, to int) []string {
	var l []string
	for n.Long(from, to) > 0 {
		b, _ := n.Take(from, to)
		l = append(l, string(b))
	}
	return l
}

// send sends messages, that must find room.
func send(t *testing.T, n *Net, from, to int, l ...string) {
	t.Helper()
	for _, s := range l {
		if told := n.Send(from, to, []byte(s)); told != api.OK {
			t.Fatalf("%q is told %d", s, told)
		}
	}
}

// P14.1: which links there are.
func TestLinks(t *testing.T) {
	for _, parents := range [][]int{nil, {0}, {-1, 1}, {-1, -1}} {
		if n, told := New(parents); n != nil || told != api.ErrTree {
			t.Errorf("%v are told %d", parents, told)
		}
	}
	n := made(t, -1, 0, 0, 1)
	links := [][2]int{{0, 1}, {1, 0}, {0, 2}, {2, 0}, {1, 3}, {3, 1}}
	for from := -2; from < 6; from++ {
		for to := -2; to < 6; to++ {
			is := slices.Contains(links, [2]int{from, to})
			want, empty := api.ErrLink, api.ErrLink
			if is {
				want, empty = api.OK, api.ErrQueue
			}
			_, told := n.Take(from, to)
			if told != empty || n.Drop(from, to) != empty || n.Twice(from, to) != empty || n.Turn(from, to) != empty || n.Long(from, to) != 0 {
				t.Errorf("from %d to %d, empty: %d", from, to, told)
			}
			if told := n.Send(from, to, nil); told != want || is != (n.Long(from, to) == 1) {
				t.Errorf("from %d to %d: %d", from, to, told)
			}
		}
	}
	if n.Send(math.MaxInt, math.MinInt, nil) != api.ErrLink || made(t, -1).Send(0, 0, nil) != api.ErrLink {
		t.Error("no link")
	}
}

// P14.2: Send and Take, in order, up to the limit.
func TestSend(t *testing.T) {
	n := made(t, -1, 0)
	l := []string{"a", "", "c", "d", "e", "f", "g", "h"}
	send(t, n, 0, 1, l...)
	if n.Send(0, 1, []byte("i")) != api.ErrQueue || n.Twice(0, 1) != api.ErrQueue || n.Long(0, 1) != api.MaxQueue || n.Long(1, 0) != 0 {
		t.Error("one too many")
	}
	if got := take(n, 0, 1); !slices.Equal(got, l) {
		t.Errorf("taken: %q", got)
	}
	send(t, n, 1, 0, l...)
	if n.Send(1, 0, nil) != api.ErrQueue || n.Long(1, 0) != api.MaxQueue {
		t.Error("one too many, to the parent")
	}
	if b, told := n.Take(0, 1); len(b) != 0 || told != api.ErrQueue {
		t.Errorf("of none: %q, %d", b, told)
	}
}

// P14.2: Drop, Twice and Turn.
func TestTurn(t *testing.T) {
	for i, c := range []struct {
		call func(*Net, int, int) api.Errno
		want []string
	}{
		{(*Net).Drop, []string{"b", "c"}},
		{(*Net).Twice, []string{"a", "b", "c", "a"}},
		{(*Net).Turn, []string{"b", "c", "a"}},
	} {
		n := made(t, -1, 0, 0)
		send(t, n, 1, 0, "a", "b", "c")
		send(t, n, 0, 1, "x", "y")
		if told := c.call(n, 1, 0); told != api.OK {
			t.Errorf("%d is told %d", i, told)
		}
		if got, other := take(n, 1, 0), take(n, 0, 1); !slices.Equal(got, c.want) || !slices.Equal(other, []string{"x", "y"}) {
			t.Errorf("%d: %q, %q", i, got, other)
		}
		send(t, n, 1, 0, "z")
		if told := c.call(n, 1, 0); told != api.OK {
			t.Errorf("%d of one is told %d", i, told)
		}
		if got := take(n, 1, 0); i == 0 && len(got) != 0 || i == 1 && !slices.Equal(got, []string{"z", "z"}) || i == 2 && !slices.Equal(got, []string{"z"}) {
			t.Errorf("%d of one: %q", i, got)
		}
	}
	n := made(t, -1, 0)
	send(t, n, 0, 1, "1", "2", "3", "4", "5", "6", "7", "8")
	if n.Turn(0, 1) != api.OK || !slices.Equal(take(n, 0, 1), []string{"2", "3", "4", "5", "6", "7", "8", "1"}) {
		t.Error("Turn of as many as there may be")
	}
}

// P14.3: Empty empties a broker's links alone.
func TestEmpty(t *testing.T) {
	n := made(t, -1, 0, 0, 1)
	links := [][2]int{{0, 1}, {1, 0}, {0, 2}, {2, 0}, {1, 3}, {3, 1}}
	for _, l := range links {
		send(t, n, l[0], l[1], "a", "b")
	}
	n.Empty(-1)
	n.Empty(4)
	n.Empty(1)
	for _, l := range links {
		want := 2
		if l[0] == 1 || l[1] == 1 {
			want = 0
		}
		if n.Long(l[0], l[1]) != want {
			t.Errorf("from %d to %d: %d", l[0], l[1], n.Long(l[0], l[1]))
		}
	}
	if n.Long(0, 0) != 0 || n.Long(3, 0) != 0 || n.Long(-1, 0) != 0 || n.Long(0, 9) != 0 {
		t.Error("no link has messages")
	}
}

// P14.2, P14.4: links are as lists that one turns about.
func TestAny(t *testing.T) {
	r := rand.New(rand.NewSource(14))
	n, l := made(t, -1, 0), []string(nil)
	for step := range 5000 {
		told, want, some := api.OK, api.OK, len(l) > 0
		if !some {
			want = api.ErrQueue
		}
		switch r.Intn(6) {
		case 0, 1:
			s := string(rune('a' + step%26))
			told = n.Send(0, 1, []byte(s))
			want = api.OK
			if len(l) == api.MaxQueue {
				want = api.ErrQueue
			} else {
				l = append(l, s)
			}
		case 2:
			var b []byte
			b, told = n.Take(0, 1)
			if some {
				if string(b) != l[0] {
					t.Fatalf("taken %q, not %q", b, l[0])
				}
				l = l[1:]
			}
		case 3:
			told = n.Drop(0, 1)
			if some {
				l = l[1:]
			}
		case 4:
			told = n.Twice(0, 1)
			if some && len(l) < api.MaxQueue {
				l = append(l, l[0])
			} else {
				want = api.ErrQueue
			}
		case 5:
			told = n.Turn(0, 1)
			if some {
				l = append(l[1:], l[0])
			}
		}
		if told != want || n.Long(0, 1) != len(l) {
			t.Fatalf("step %d is told %d, not %d, of %q", step, told, want, l)
		}
	}
	if got := take(n, 0, 1); !slices.Equal(got, l) {
		t.Errorf("%q, not %q", got, l)
	}
}

// R4: messages are in memory of their own.
func TestOwnMemory(t *testing.T) {
	n := made(t, -1, 0)
	b := []byte("abc")
	n.Send(0, 1, b[:2])
	b[0] = 'z'
	n.Twice(0, 1)
	one, _ := n.Take(0, 1)
	one[1] = 'z'
	_ = append(one, 'z')
	two, _ := n.Take(0, 1)
	if string(two) != "ab" || string(b) != "zbc" {
		t.Errorf("now %q, %q", two, b)
	}
}

// R1: no net, and one that New did not make.
func TestNil(t *testing.T) {
	for n, want := range map[*Net]api.Errno{nil: api.ErrArg, {}: api.ErrLink} {
		n.Empty(0)
		b, told := n.Take(0, 1)
		if told != want || len(b) != 0 || n.Send(0, 1, nil) != want || n.Drop(0, 1) != want || n.Twice(0, 1) != want || n.Turn(0, 1) != want || n.Long(0, 1) != 0 {
			t.Errorf("%v: %d", n, told)
		}
	}
}
