package xdr_test

import (
	"math"
	"strings"
	"testing"

	"coracle/api"
	"coracle/xdr"
)

func written(put func(w *xdr.Writer)) string {
	var w xdr.Writer
	put(&w)
	return w.Bytes()
}

// P1.1: numbers.
func TestPutNumbers(t *testing.T) {
	for n, want := range map[int]string{
		0:               "\x00\x00\x00\x00",
		1:               "\x00\x00\x00\x01",
		0x01020304:      "\x01\x02\x03\x04",
		0x80000000:      "\x80\x00\x00\x00",
		1<<32 - 1:       "\xff\xff\xff\xff",
		1 << 32:         "\x00\x00\x00\x00",
		1<<32 + 5:       "\x00\x00\x00\x05",
		-1:              "\xff\xff\xff\xff",
		-2:              "\xff\xff\xff\xfe",
		math.MinInt:     "\x00\x00\x00\x00",
		math.MinInt + 7: "\x00\x00\x00\x07",
		math.MaxInt:     "\xff\xff\xff\xff",
	} {
		if got := written(func(w *xdr.Writer) { w.Uint(n) }); got != want {
			t.Errorf("Uint(%d): %x", n, got)
		}
	}
	for n, want := range map[int]string{
		0:                  "\x00\x00\x00\x00\x00\x00\x00\x00",
		0x0102030405060708: "\x01\x02\x03\x04\x05\x06\x07\x08",
		1 << 32:            "\x00\x00\x00\x01\x00\x00\x00\x00",
		-1:                 "\xff\xff\xff\xff\xff\xff\xff\xff",
		-256:               "\xff\xff\xff\xff\xff\xff\xff\x00",
		math.MinInt:        "\x80\x00\x00\x00\x00\x00\x00\x00",
		math.MaxInt:        "\x7f\xff\xff\xff\xff\xff\xff\xff",
	} {
		if got := written(func(w *xdr.Writer) { w.Hyper(n) }); got != want {
			t.Errorf("Hyper(%d): %x", n, got)
		}
	}
	if got := written(func(w *xdr.Writer) { w.Bool(true); w.Bool(false) }); got != "\x00\x00\x00\x01\x00\x00\x00\x00" {
		t.Errorf("Bool: %x", got)
	}
}

// P1.1: texts.
func TestPutTexts(t *testing.T) {
	for _, x := range []struct{ text, fixed string }{
		{"", ""},
		{"a", "a\x00\x00\x00"},
		{"ab", "ab\x00\x00"},
		{"abc", "abc\x00"},
		{"abcd", "abcd"},
		{"abcde", "abcde\x00\x00\x00"},
		{"\x00\xff\x80\x00\x01", "\x00\xff\x80\x00\x01\x00\x00\x00"},
		{"é", "\xc3\xa9\x00\x00"},
	} {
		if got := written(func(w *xdr.Writer) { w.Fixed(x.text) }); got != x.fixed {
			t.Errorf("Fixed(%q): %x", x.text, got)
		}
		opaque := "\x00\x00\x00" + string([]byte{byte(len(x.text))}) + x.fixed
		if got := written(func(w *xdr.Writer) { w.Opaque(x.text) }); got != opaque {
			t.Errorf("Opaque(%q): %x", x.text, got)
		}
	}
	long := strings.Repeat("x", 66051)
	if got := written(func(w *xdr.Writer) { w.Opaque(long) }); got != "\x00\x01\x02\x03"+long+"\x00" {
		t.Error("Opaque of a long text")
	}
}

// P1.1: a zero value is empty, and Bytes is all that was put, in order, as often as it is asked.
func TestBytes(t *testing.T) {
	var w xdr.Writer
	if w.Bytes() != "" {
		t.Error("a new writer isn't empty")
	}
	w.Uint(1)
	w.Fixed("ab")
	first := w.Bytes()
	w.Bool(true)
	w.Hyper(2)
	w.Opaque("c")
	all := "\x00\x00\x00\x01ab\x00\x00\x00\x00\x00\x01\x00\x00\x00\x00\x00\x00\x00\x02\x00\x00\x00\x01c\x00\x00\x00"
	if first != all[:8] {
		t.Errorf("first: %x", first)
	}
	if w.Bytes() != all || w.Bytes() != all {
		t.Errorf("all: %x", w.Bytes())
	}
}

// P1.2: what was put is taken.
func TestTake(t *testing.T) {
	numbers := []int{0, 1, 255, 256, 0x01020304, 1<<31 - 1, 1 << 31, 1<<32 - 1}
	for _, n := range numbers {
		r := xdr.Open(written(func(w *xdr.Writer) { w.Uint(n) }))
		if got := r.Uint(); got != n || r.End() != api.OK {
			t.Errorf("Uint %d: %d", n, got)
		}
	}
	for _, n := range append(numbers, 1<<32, -1, -2, -1<<32, math.MinInt, math.MaxInt, 0x0102030405060708) {
		r := xdr.Open(written(func(w *xdr.Writer) { w.Hyper(n) }))
		if got := r.Hyper(); got != n || r.End() != api.OK {
			t.Errorf("Hyper %d: %d", n, got)
		}
	}
	for _, s := range []string{"", "a", "ab", "abc", "abcd", "\x00\x00\x00\x00\x00", "\xff\xfe\xfd"} {
		r := xdr.Open(written(func(w *xdr.Writer) { w.Opaque(s); w.Opaque(s); w.Fixed(s) }))
		if r.Opaque(len(s)) != s || r.Opaque(math.MaxInt) != s || r.Fixed(len(s)) != s || r.End() != api.OK {
			t.Errorf("%q", s)
		}
	}
	r := xdr.Open("\x00\x00\x00\x01\x00\x00\x00\x00\x00\x00\x00\x01")
	if !r.Bool() || r.Bool() || !r.Bool() || r.End() != api.OK {
		t.Error("Bool")
	}
}

// P1.2: nothing is taken by Open, nor by a Fixed of no bytes or fewer.
func TestTakeNothing(t *testing.T) {
	r := xdr.Open("abcd")
	for _, n := range []int{0, -1, -4, math.MinInt} {
		if r.Fixed(n) != "" || r.Left() != 4 || r.End() != api.ErrTail {
			t.Errorf("Fixed(%d)", n)
		}
	}
	if r.Fixed(4) != "abcd" || r.End() != api.OK {
		t.Error("Fixed(4)")
	}
	if r := xdr.Open(""); r == nil || r.Left() != 0 || r.End() != api.OK {
		t.Error("Open of nothing")
	}
}

// wrong: the calls of P1.3 that go wrong, each ahead of bytes that could be taken, if it hadn't.
var wrong = []struct {
	what  string
	bytes string
	call  func(r *xdr.Reader) bool // is the answer zero?
	want  api.Errno
}{
	{"Uint of nothing", "", isUint, api.ErrShort},
	{"Uint of three", "\x00\x00\x01", isUint, api.ErrShort},
	{"Hyper of nothing", "", isHyper, api.ErrShort},
	{"Hyper of seven", "\x00\x00\x00\x00\x00\x00\x01", isHyper, api.ErrShort},
	{"Bool of nothing", "", isBool, api.ErrShort},
	{"Bool of three", "\x00\x00\x02", isBool, api.ErrShort},
	{"Bool of 2", "\x00\x00\x00\x02\x00\x00\x00\x01", isBool, api.ErrForm},
	{"Bool of 256", "\x00\x00\x01\x00\x00\x00\x00\x01", isBool, api.ErrForm},
	{"Bool of 2^32 - 1", "\xff\xff\xff\xff\x00\x00\x00\x01", isBool, api.ErrForm},
	{"Opaque without a length", "\x00\x00\x00", isOpaque(8), api.ErrShort},
	{"Opaque of nothing", "", isOpaque(8), api.ErrShort},
	{"Opaque without bytes", "\x00\x00\x00\x08", isOpaque(8), api.ErrShort},
	{"Opaque without some bytes", "\x00\x00\x00\x08abcdefg", isOpaque(8), api.ErrShort},
	{"Opaque without noughts", "\x00\x00\x00\x01a", isOpaque(8), api.ErrShort},
	{"Opaque without the last nought", "\x00\x00\x00\x01a\x00\x00", isOpaque(8), api.ErrShort},
	{"Opaque with a wrong nought, and one that isn't there", "\x00\x00\x00\x01a\x01\x00", isOpaque(8), api.ErrShort},
	{"Opaque too long", "\x00\x00\x00\x09abcdefghi\x00\x00\x00", isOpaque(8), api.ErrLong},
	{"Opaque too long, without bytes", "\x00\x00\x00\x09", isOpaque(8), api.ErrLong},
	{"Opaque too long, with wrong noughts", "\x00\x00\x00\x09abcdefghi\x01\x00\x00", isOpaque(8), api.ErrLong},
	{"Opaque of 2^32 - 1", "\xff\xff\xff\xff", isOpaque(8), api.ErrLong},
	{"Opaque of 2^32 - 1 that may be so long", "\xff\xff\xff\xff", isOpaque(math.MaxInt), api.ErrShort},
	{"Opaque of at most 0", "\x00\x00\x00\x01a\x00\x00\x00", isOpaque(0), api.ErrLong},
	{"Opaque of at most -1", "\x00\x00\x00\x01a\x00\x00\x00", isOpaque(-1), api.ErrLong},
	{"Opaque of at most the least", "\x00\x00\x00\x01a\x00\x00\x00", isOpaque(math.MinInt), api.ErrLong},
	{"Opaque with a wrong first nought", "\x00\x00\x00\x01a\x01\x00\x00", isOpaque(8), api.ErrForm},
	{"Opaque with a wrong middle nought", "\x00\x00\x00\x01a\x00\x80\x00", isOpaque(8), api.ErrForm},
	{"Opaque with a wrong last nought", "\x00\x00\x00\x03abc\xff\x00\x00\x00\x01", isOpaque(8), api.ErrForm},
	{"Fixed without bytes", "abc", isFixed(4), api.ErrShort},
	{"Fixed without noughts", "abcde", isFixed(5), api.ErrShort},
	{"Fixed without the last nought", "abcde\x00\x00", isFixed(5), api.ErrShort},
	{"Fixed with a wrong nought", "abcde\x00\x00z", isFixed(5), api.ErrForm},
	{"Fixed of the most", "abcd", isFixed(math.MaxInt), api.ErrShort},
	{"Fixed of the most in fours", "abcd", isFixed(math.MaxInt - 3), api.ErrShort},
}

func isUint(r *xdr.Reader) bool  { return r.Uint() == 0 }
func isHyper(r *xdr.Reader) bool { return r.Hyper() == 0 }
func isBool(r *xdr.Reader) bool  { return !r.Bool() }

func isOpaque(most int) func(r *xdr.Reader) bool {
	return func(r *xdr.Reader) bool { return r.Opaque(most) == "" }
}

func isFixed(n int) func(r *xdr.Reader) bool {
	return func(r *xdr.Reader) bool { return r.Fixed(n) == "" }
}

// isOver: are all answers from now on zero?
func isOver(r *xdr.Reader) bool {
	return isUint(r) && isHyper(r) && isBool(r) && isOpaque(9)(r) && isOpaque(-1)(r) && isFixed(0)(r) && isFixed(4)(r) && r.Left() == 0
}

// P1.3: each error, and that it is the last thing that happens.
func TestWrong(t *testing.T) {
	for _, x := range wrong {
		r := xdr.Open(x.bytes)
		if !x.call(r) || r.End() != x.want {
			t.Errorf("%s: %d", x.what, r.End())
		}
		if !isOver(r) || r.End() != x.want {
			t.Errorf("%s: and then %d", x.what, r.End())
		}
	}
}

// P1.3: an Opaque of no bytes may be asked with any most.
func TestEmptyOpaque(t *testing.T) {
	for _, most := range []int{math.MinInt, -1, 0, 1, math.MaxInt} {
		r := xdr.Open("\x00\x00\x00\x00")
		if r.Opaque(most) != "" || r.End() != api.OK {
			t.Errorf("%d: %d", most, r.End())
		}
	}
}

// P1.4: Left and End, step by step.
func TestLeftAndEnd(t *testing.T) {
	r := xdr.Open("\x00\x00\x00\x07\x00\x00\x00\x00\x00\x00\x00\x08\x00\x00\x00\x01\x00\x00\x00\x05abcde\x00\x00\x00z\x00\x00\x00")
	for i, call := range []func() bool{
		func() bool { return r.Left() == 32 },
		func() bool { return r.Uint() == 7 && r.Left() == 28 },
		func() bool { return r.Hyper() == 8 && r.Left() == 20 },
		func() bool { return r.Bool() && r.Left() == 16 },
		func() bool { return r.Opaque(5) == "abcde" && r.Left() == 4 },
	} {
		if !call() || r.End() != api.ErrTail {
			t.Errorf("step %d", i)
		}
	}
	if r.Fixed(1) != "z" || r.Left() != 0 || r.End() != api.OK {
		t.Error("the end")
	}
	if r.Uint() != 0 || r.End() != api.ErrShort {
		t.Error("behind the end")
	}
}

// P1.4: nil pointers.
func TestNil(t *testing.T) {
	var w *xdr.Writer
	w.Uint(1)
	w.Hyper(1)
	w.Bool(true)
	w.Opaque("abc")
	w.Fixed("abc")
	if w.Bytes() != "" {
		t.Error("a nil writer has bytes")
	}
	var r *xdr.Reader
	if !isOver(r) || r.Opaque(math.MinInt) != "" || r.Fixed(-1) != "" || r.End() != api.ErrArg {
		t.Error("a nil reader")
	}
}

// Two readers of one text, and two writers, have nothing to do with each other.
func TestApart(t *testing.T) {
	s := "\x00\x00\x00\x01\x00\x00\x00\x02"
	one, two := xdr.Open(s), xdr.Open(s)
	if one.Uint() != 1 || one.Uint() != 2 || two.Left() != 8 || two.Uint() != 1 {
		t.Error("readers")
	}
	var a, b xdr.Writer
	a.Uint(1)
	b.Uint(2)
	if a.Bytes() != "\x00\x00\x00\x01" || b.Bytes() != "\x00\x00\x00\x02" {
		t.Error("writers")
	}
}
