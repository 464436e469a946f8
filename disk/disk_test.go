package disk

import (
	"bytes"
	"math"
	"math/rand"
	"testing"

	"postilion/api"
)

// made is a disk, that must be one.
func made(t *testing.T, room int) *Disk {
	t.Helper()
	d, told := New(room)
	if told != api.OK || d == nil {
		t.Fatalf("a room of %d is told %d", room, told)
	}
	return d
}

// holds asks what a disk holds.
func holds(t *testing.T, d *Disk, want string, lasting int) {
	t.Helper()
	if string(d.Read()) != want || d.Lasting() != lasting {
		t.Errorf("it holds %q, of which %d last, not %q and %d", d.Read(), d.Lasting(), want, lasting)
	}
}

// P9.1: which rooms may be.
func TestNew(t *testing.T) {
	for _, room := range []int{0, 1, api.MaxLog} {
		holds(t, made(t, room), "", 0)
	}
	for _, room := range []int{-1, math.MinInt, api.MaxLog + 1, math.MaxInt} {
		if d, told := New(room); d != nil || told != api.ErrArg {
			t.Errorf("%d is told %d", room, told)
		}
	}
}

// P9.2: Append and Sync.
func TestAppend(t *testing.T) {
	d := made(t, 5)
	if d.Append([]byte("abc")) != api.OK || d.Append([]byte("def")) != api.ErrFull {
		t.Error("more than there is room for")
	}
	holds(t, d, "abc", 0)
	if d.Append([]byte("de")) != api.OK || d.Append(nil) != api.OK || d.Append([]byte("f")) != api.ErrFull {
		t.Error("just as much as there is room for")
	}
	holds(t, d, "abcde", 0)
	if d.Sync() != api.OK {
		t.Error("Sync")
	}
	holds(t, d, "abcde", 5)
	if made(t, 2).Append([]byte("abc")) != api.ErrFull || made(t, 0).Append(nil) != api.OK {
		t.Error("little room")
	}
	d = made(t, api.MaxLog)
	if d.Append(make([]byte, api.MaxLog)) != api.OK || d.Append([]byte{0}) != api.ErrFull {
		t.Error("the greatest room")
	}
}

// P9.2: Cut.
func TestCut(t *testing.T) {
	d := made(t, 9)
	d.Append([]byte("abcdef"))
	for _, n := range []int{-1, 7, math.MinInt, math.MaxInt} {
		if d.Cut(n) != api.ErrArg {
			t.Errorf("cut at %d", n)
		}
	}
	holds(t, d, "abcdef", 0)
	if d.Cut(6) != api.OK {
		t.Error("cut at its end")
	}
	holds(t, d, "abcdef", 6)
	if d.Cut(4) != api.OK {
		t.Error("cut at 4")
	}
	holds(t, d, "abcd", 4)
	if d.Append([]byte("xy")) != api.OK || d.Cut(0) != api.OK {
		t.Error("cut at 0")
	}
	holds(t, d, "", 0)
	if d.Append(make([]byte, 9)) != api.OK {
		t.Error("what is cut leaves no room")
	}
}

// P9.2: Swap.
func TestSwap(t *testing.T) {
	d := made(t, 3)
	d.Append([]byte("abc"))
	if d.Swap([]byte("wxyz")) != api.ErrFull {
		t.Error("more than there is room for")
	}
	holds(t, d, "abc", 0)
	if d.Swap([]byte("xyz")) != api.OK {
		t.Error("just as much as there is room for")
	}
	holds(t, d, "xyz", 3)
	if d.Swap(nil) != api.OK {
		t.Error("no byte")
	}
	holds(t, d, "", 0)
}

// P9.2, P9.4: what a crash keeps.
func TestCrash(t *testing.T) {
	for _, c := range []struct {
		keep int
		want string
	}{{0, "ab"}, {1, "abc"}, {2, "abcd"}, {3, "abcde"}, {4, "abcde"}, {-1, "ab"}, {math.MinInt, "ab"}, {math.MaxInt, "abcde"}} {
		d := made(t, 20)
		d.Append([]byte("ab"))
		d.Sync()
		d.Append([]byte("cde"))
		d.Crash(c.keep)
		holds(t, d, c.want, len(c.want))
	}
}

// P9.4: what lasts stands behind any crash; a crash leaves a beginning of what was there.
func TestLasts(t *testing.T) {
	r := rand.New(rand.NewSource(9))
	d := made(t, 300)
	for range 5000 {
		switch r.Intn(6) {
		case 0, 1, 2:
			d.Append([]byte{byte(r.Intn(256)), byte(r.Intn(256))})
		case 3:
			d.Sync()
		case 4:
			d.Cut(r.Intn(300))
		case 5:
			was, last := d.Read(), d.Lasting()
			d.Crash(r.Intn(9) - 2)
			now := d.Read()
			if !bytes.HasPrefix(was, now) || len(now) < last || d.Lasting() != len(now) {
				t.Fatalf("of %v, of which %d last, there is %v", was, last, now)
			}
		}
		if d.Lasting() > len(d.Read()) || len(d.Read()) > 300 {
			t.Fatalf("%d of %d last", d.Lasting(), len(d.Read()))
		}
	}
}

// P9.3, R4: a disk shares no memory.
func TestOwnMemory(t *testing.T) {
	d := made(t, 100)
	b := []byte("abcd")
	d.Append(b[:2])
	b[0] = 'z'
	d.Append([]byte("x"))
	got := d.Read()
	got[1] = 'z'
	_ = append(got, 'z')
	d.Append([]byte("y"))
	holds(t, d, "abxy", 0)
	d.Swap(b[:2])
	b[1] = 'q'
	d.Append([]byte("r"))
	holds(t, d, "zbr", 2)
	if string(b) != "zqcd" {
		t.Errorf("now %q", b)
	}
}

// R1: no disk, and one that New did not make.
func TestNil(t *testing.T) {
	var d *Disk
	d.Crash(1)
	if d.Append(nil) != api.ErrArg || d.Sync() != api.ErrArg || d.Cut(0) != api.ErrArg || d.Swap(nil) != api.ErrArg || len(d.Read()) != 0 || d.Lasting() != 0 {
		t.Error("no disk")
	}
	d = &Disk{}
	d.Crash(1)
	if d.Append([]byte{1}) != api.ErrFull || d.Swap([]byte{1}) != api.ErrFull || d.Append(nil) != api.OK || d.Cut(0) != api.OK {
		t.Error("an empty disk")
	}
}
