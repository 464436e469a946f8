package wal

import (
	"bytes"
	"math/rand"
	"testing"

	"postilion/api"
	"postilion/disk"
	"postilion/frame"
)

// fresh is a disk of so much room, and the log of it.
func fresh(t *testing.T, room int) (*disk.Disk, *Log) {
	t.Helper()
	d, told := disk.New(room)
	if told != api.OK {
		t.Fatal(told)
	}
	return d, opened(t, d)
}

// opened is a disk's log, that must be one.
func opened(t *testing.T, d *disk.Disk) *Log {
	t.Helper()
	l, told := Open(d)
	if told != api.OK || l.Disk() != d {
		t.Fatalf("Open is told %d", told)
	}
	return l
}

// bytesOf are texts' bytes.
func bytesOf(l ...string) [][]byte {
	var out [][]byte
	for _, s := range l {
		out = append(out, []byte(s))
	}
	return out
}

// frames1 are the bytes of texts' frames.
func frames1(l ...string) []byte {
	var out []byte
	for _, s := range l {
		f, _ := frame.Wrap([]byte(s))
		out = append(out, f...)
	}
	return out
}

// says asks which records a log has.
func says(t *testing.T, l *Log, want ...string) {
	t.Helper()
	if got := l.Records(); !bytes.Equal(bytes.Join(got, []byte("|")), bytes.Join(bytesOf(want...), []byte("|"))) || len(got) != len(want) {
		t.Errorf("its records are %q, not %q", got, want)
	}
}

// P10.1: a log of what a disk holds; the disk is cut.
func TestOpen(t *testing.T) {
	if l, told := Open(nil); l != nil || told != api.ErrArg {
		t.Errorf("no disk: %d", told)
	}
	d, l := fresh(t, 100)
	says(t, l)
	d.Append(frames1("one", "two"))
	whole := len(d.Read())
	d.Append(frames1("three")[:8])
	says(t, opened(t, d), "one", "two")
	if len(d.Read()) != whole || d.Lasting() != whole {
		t.Errorf("%d bytes are left, %d last", len(d.Read()), d.Lasting())
	}
	d.Swap([]byte("rubbish"))
	says(t, opened(t, d))
	if len(d.Read()) != 0 {
		t.Errorf("%q is left", d.Read())
	}
}

// P10.2: Append lays frames, that do not last yet.
func TestAppend(t *testing.T) {
	d, l := fresh(t, 40)
	if l.Append(bytesOf("a", "bc")...) != api.OK || l.Append() != api.OK || l.Append([]byte("d")) != api.OK {
		t.Error("Append")
	}
	says(t, l, "a", "bc", "d")
	if !bytes.Equal(d.Read(), frames1("a", "bc", "d")) || d.Lasting() != 0 {
		t.Errorf("the disk holds %v, %d last", d.Read(), d.Lasting())
	}
	if l.Append([]byte("ok"), nil) != api.ErrFrame || l.Append(make([]byte, api.MaxFrame+1)) != api.ErrFrame {
		t.Error("a record that makes no frame")
	}
	if l.Append([]byte("x"), []byte("twelve bytes")) != api.ErrFull {
		t.Error("more than there is room for")
	}
	says(t, l, "a", "bc", "d")
	if !bytes.Equal(d.Read(), frames1("a", "bc", "d")) {
		t.Errorf("the disk holds %v", d.Read())
	}
}

// P10.2: Force lets all last, what was appended before, too.
func TestForce(t *testing.T) {
	d, l := fresh(t, 30)
	l.Append([]byte("a"))
	if l.Force([]byte("b"), []byte("c")) != api.OK {
		t.Error("Force")
	}
	says(t, l, "a", "b", "c")
	if n := len(frames1("a", "b", "c")); d.Lasting() != n || len(d.Read()) != n {
		t.Errorf("%d last", d.Lasting())
	}
	l.Append([]byte("d"))
	last := d.Lasting()
	if l.Force(nil) != api.ErrFrame || l.Force([]byte("e")) != api.ErrFull || d.Lasting() != last {
		t.Error("Force that is refused")
	}
	says(t, l, "a", "b", "c", "d")
	if l.Force() != api.OK || d.Lasting() != len(d.Read()) {
		t.Error("Force of none")
	}
}

// P10.2: Rewrite lets other records be.
func TestRewrite(t *testing.T) {
	d, l := fresh(t, 16)
	l.Append(bytesOf("a", "b")...)
	if l.Rewrite([]byte("x"), nil) != api.ErrFrame || l.Rewrite(bytesOf("abc", "def")...) != api.ErrFull {
		t.Error("Rewrite that is refused")
	}
	says(t, l, "a", "b")
	if !bytes.Equal(d.Read(), frames1("a", "b")) || d.Lasting() != 0 {
		t.Error("the disk is changed")
	}
	if l.Rewrite(bytesOf("ab", "cd")...) != api.OK {
		t.Error("Rewrite")
	}
	says(t, l, "ab", "cd")
	if !bytes.Equal(d.Read(), frames1("ab", "cd")) || d.Lasting() != 16 {
		t.Errorf("the disk holds %v, %d last", d.Read(), d.Lasting())
	}
	if l.Rewrite() != api.OK || len(d.Read()) != 0 {
		t.Error("Rewrite of none")
	}
	says(t, l)
	l.Append([]byte("q"))
	says(t, l, "q")
}

// P10.4: behind a crash there is a beginning, all that was forced in it.
func TestCrash(t *testing.T) {
	d, l := fresh(t, 100)
	l.Force([]byte("a"))
	l.Append([]byte("bc"))
	d.Crash(3)
	says(t, opened(t, d), "a")
	r := rand.New(rand.NewSource(10))
	for range 300 {
		d, l := fresh(t, 1000)
		forced := 0
		for i := range 1 + r.Intn(9) {
			b := bytes.Repeat([]byte{byte(i + 1)}, 1+r.Intn(20))
			if r.Intn(2) == 0 {
				l.Append(b)
			} else {
				l.Force(b)
				forced = i + 1
			}
		}
		was := l.Records()
		d.Crash(r.Intn(40))
		now := opened(t, d).Records()
		if len(now) < forced || len(now) > len(was) {
			t.Fatalf("%d of %d records, %d forced", len(now), len(was), forced)
		}
		for i, b := range now {
			if !bytes.Equal(b, was[i]) {
				t.Fatalf("record %d is %v", i, b)
			}
		}
	}
}

// P10.3, R4: records are in memory of their own.
func TestOwnMemory(t *testing.T) {
	_, l := fresh(t, 100)
	in := bytesOf("ab", "cd", "ef")
	l.Append(in[:2]...)
	in[0][0] = 'z'
	in[1] = nil
	got := l.Records()
	got[0][1] = 'z'
	_ = append(got[0], 'z')
	_ = append(got, nil)
	got[1] = nil
	l.Append([]byte("gh"))
	says(t, l, "ab", "cd", "gh")
	if string(in[2]) != "ef" {
		t.Errorf("now %q", in[2])
	}
	in = bytesOf("ij", "kl")
	l.Rewrite(in...)
	in[0][0] = 'z'
	in[1] = nil
	says(t, l, "ij", "kl")
}

// R1: no log, and one that Open did not make.
func TestNil(t *testing.T) {
	var l *Log
	if l.Append(nil) != api.ErrArg || l.Force() != api.ErrArg || l.Rewrite(nil) != api.ErrArg || len(l.Records()) != 0 || l.Disk() != nil {
		t.Error("no log")
	}
	l = &Log{}
	if l.Append([]byte("a")) != api.ErrArg || l.Force([]byte("a")) != api.ErrArg || l.Rewrite([]byte("a")) != api.ErrArg || len(l.Records()) != 0 || l.Disk() != nil {
		t.Error("an empty log")
	}
}
