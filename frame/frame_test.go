package frame

import (
	"bytes"
	"hash/crc32"
	"math/rand"
	"testing"

	"postilion/api"
)

// slowSum is the sum as the document tells it, bit by bit.
func slowSum(b []byte) uint32 {
	sum := uint32(0xFFFFFFFF)
	for _, x := range b {
		sum = sum&^0xFF | (sum&0xFF ^ uint32(x))
		for i := 0; i < 8; i++ {
			if sum%2 == 1 {
				sum = sum/2 ^ 0xEB31D82E
			} else {
				sum = sum / 2
			}
		}
	}
	return 0xFFFFFFFF - sum
}

// P3.1: the sum.
func TestSum(t *testing.T) {
	if Sum(nil) != 0 {
		t.Errorf("of no byte it is %x", Sum(nil))
	}
	table := crc32.MakeTable(0xEB31D82E)
	r := rand.New(rand.NewSource(1))
	for n := range 200 {
		b := make([]byte, n)
		r.Read(b)
		if s := Sum(b); s != slowSum(b) || s != crc32.Checksum(b, table) {
			t.Errorf("of %v it is %x", b, s)
		}
	}
	if s := Sum([]byte("123456789")); s != 0x2D3DD0AE {
		t.Errorf("of 123456789 it is %x", s)
	}
}

// wrapped is a frame, that must be one.
func wrapped(t *testing.T, b []byte) []byte {
	t.Helper()
	f, e := Wrap(b)
	if e != api.OK {
		t.Fatalf("%d bytes are refused: %d", len(b), e)
	}
	return f
}

// P3.2: how a frame is laid.
func TestWrap(t *testing.T) {
	for _, n := range []int{1, 2, 255, 256, 3999, api.MaxFrame} {
		b := bytes.Repeat([]byte{byte(n), 7}, n)[:n]
		f := wrapped(t, b)
		s := Sum(b)
		want := append([]byte{byte(n >> 8), byte(n), byte(s >> 24), byte(s >> 16), byte(s >> 8), byte(s)}, b...)
		if !bytes.Equal(f, want) {
			t.Errorf("%d bytes are %v", n, f[:6])
		}
	}
	for _, b := range [][]byte{nil, {}, make([]byte, api.MaxFrame+1), make([]byte, 1<<16+1)} {
		if f, e := Wrap(b); e != api.ErrFrame || len(f) != 0 {
			t.Errorf("%d bytes are told %d", len(b), e)
		}
	}
}

// P3.2, P3.3: what is wrapped is scanned, up to a frame that is cut.
func TestScan(t *testing.T) {
	parts := [][]byte{[]byte("a"), bytes.Repeat([]byte{0}, api.MaxFrame), {0}, []byte("xyz")}
	var all []byte
	ends := []int{0}
	for _, p := range parts {
		all = append(all, wrapped(t, p)...)
		ends = append(ends, len(all))
	}
	for cut := range len(all) + 1 {
		if cut > 20 && cut < 3990 {
			continue
		}
		got, n := Scan(all[:cut])
		want := 0
		for want < len(parts) && ends[want+1] <= cut {
			want++
		}
		if len(got) != want || n != ends[want] {
			t.Fatalf("cut at %d: %d frames of %d bytes", cut, len(got), n)
		}
		for i, p := range got {
			if !bytes.Equal(p, parts[i]) {
				t.Fatalf("cut at %d: frame %d is %v", cut, i, p)
			}
		}
	}
}

// P3.2: a bit that is changed ends the frames there.
func TestScanChanged(t *testing.T) {
	one, two, three := wrapped(t, []byte("one")), wrapped(t, []byte("second")), wrapped(t, []byte("third"))
	for at := range len(two) * 8 {
		changed := bytes.Clone(two)
		changed[at/8] ^= 1 << (at % 8)
		got, n := Scan(bytes.Join([][]byte{one, changed, three}, nil))
		if len(got) != 1 || n != len(one) {
			t.Errorf("bit %d changed: %d frames of %d bytes", at, len(got), n)
		}
	}
}

// P3.2: frames that Wrap never makes are none.
func TestScanNone(t *testing.T) {
	long := make([]byte, api.MaxFrame+1)
	s := Sum(long)
	big := append([]byte{byte(len(long) >> 8), byte(len(long) & 255), byte(s >> 24), byte(s >> 16), byte(s >> 8), byte(s)}, long...)
	for i, b := range [][]byte{nil, {0, 0, 0, 0, 0, 0}, {0, 0, 0, 0, 0, 0, 0}, big, {0, 1}, {255, 255, 0, 0, 0, 0}} {
		if got, n := Scan(b); len(got) != 0 || n != 0 {
			t.Errorf("%d: %d frames of %d bytes", i, len(got), n)
		}
	}
}

// R4: answers share no memory with what is handed in, or with each other.
func TestOwnMemory(t *testing.T) {
	b := []byte("abc")[:2]
	f := wrapped(t, b)
	_ = append(f, 9)
	f[6] = 'z'
	if string(b[:3]) != "abc" {
		t.Errorf("now %q", b[:3])
	}
	two := append(wrapped(t, []byte("ab")), wrapped(t, []byte("cd"))...)
	keep := bytes.Clone(two)
	got, _ := Scan(two)
	_ = append(got[0], 1, 2, 3, 4, 5, 6, 7, 8)
	got[0][0] = 'z'
	if !bytes.Equal(two, keep) || string(got[1]) != "cd" {
		t.Error("frames share memory")
	}
}
