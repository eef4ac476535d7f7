package handle_test

import (
	"encoding/binary"
	"math"
	"strings"
	"testing"

	"coracle/api"
	"coracle/handle"
)

var numbers = []int{0, 1, 2, 255, 256, 1 << 31, 1<<60 + 7, -1, -256, math.MaxInt, math.MinInt}

// laid: a handle, byte by byte.
func laid(mark string, numbers ...int) string {
	b := []byte(mark)
	for _, n := range numbers {
		b = binary.BigEndian.AppendUint64(b, uint64(n))
	}
	return string(b)
}

// The chapter's example.
func TestExample(t *testing.T) {
	want := "cora\x00\x00\x00\x00\x00\x00\x00\x01\x00\x00\x00\x00\x00\x00\x00\x02\x00\x00\x00\x00\x00\x00\x00\x02"
	if s := handle.Put(1, 2, 2); s != want {
		t.Errorf("%x", s)
	}
}

// P14.1: 28 bytes, of which Get tells the numbers.
func TestPutGet(t *testing.T) {
	seen := map[string]bool{}
	for _, fsid := range numbers {
		for _, id := range numbers {
			for _, gen := range numbers {
				s := handle.Put(fsid, id, gen)
				if s != laid("cora", fsid, id, gen) || seen[s] {
					t.Fatalf("Put(%d, %d, %d): %x", fsid, id, gen, s)
				}
				seen[s] = true
				if a, b, c, ok := handle.Get(s); a != fsid || b != id || c != gen || !ok {
					t.Fatalf("Get of Put(%d, %d, %d): %d %d %d %v", fsid, id, gen, a, b, c, ok)
				}
			}
		}
	}
}

// none are texts that are no handles, though much of each is one.
func none() []string {
	s := handle.Put(1, 2, 2)
	l := []string{s + "\x00", s + "\x00\x00\x00\x00", s + s, " " + s, s[1:] + "c", strings.ToUpper(s), strings.Repeat("\x00", 28), strings.Repeat("cora", 7)[1:] + "c"}
	for n := range len(s) {
		l = append(l, s[:n], s[n+1:])
	}
	for i := range 4 {
		for _, x := range []byte{1, 0x20, 0x80} {
			b := []byte(s)
			b[i] ^= x
			l = append(l, string(b))
		}
	}
	return l
}

// P14.1, P14.2: texts that are no handles.
func TestNone(t *testing.T) {
	for _, s := range none() {
		if a, b, c, ok := handle.Get(s); a != 0 || b != 0 || c != 0 || ok {
			t.Errorf("Get(%x): %d %d %d %v", s, a, b, c, ok)
		}
		if id, status := handle.Number(s); id != 0 || status != api.BadHandle {
			t.Errorf("Number(%x): %d %d", s, id, status)
		}
	}
}

// P14.2: which handles are those of files that may be.
func TestNumber(t *testing.T) {
	for _, fsid := range append(numbers, 3) {
		for _, id := range numbers {
			for _, gen := range numbers {
				want, wanted := 0, api.BadHandle
				if fsid == 1 && id >= 1 && gen == id {
					want, wanted = id, 0
				}
				if got, status := handle.Number(handle.Put(fsid, id, gen)); got != want || status != wanted {
					t.Errorf("Number of Put(%d, %d, %d): %d %d", fsid, id, gen, got, status)
				}
			}
		}
	}
}

// P14.2: the verifiers of different boots differ.
func TestVerifier(t *testing.T) {
	seen := map[string]bool{}
	for _, boot := range append(numbers, 3, 65536, 1<<32, 1<<40, 1<<56) {
		s := handle.Verifier(boot)
		if s != laid("", boot) || len(s) != 8 || seen[s] {
			t.Errorf("Verifier(%d): %x", boot, s)
		}
		seen[s] = true
	}
	if s := handle.Verifier(0x0102030405060708); s != "\x01\x02\x03\x04\x05\x06\x07\x08" {
		t.Errorf("Verifier: %x", s)
	}
}
