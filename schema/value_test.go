package schema_test

import (
	"math"
	"math/rand"
	"slices"
	"strconv"
	"strings"
	"testing"

	"coracle/api"
	"coracle/schema"
)

func isEmpty(v api.Value) bool { return len(v.N) == 0 && len(v.T) == 0 }

func same(v, w api.Value) bool { return slices.Equal(v.N, w.N) && slices.Equal(v.T, w.T) }

func numbers(n ...int) api.Value { return api.Value{N: n} }

func texts(s ...string) api.Value { return api.Value{T: s} }

// uints: Uints as bytes.
func uints(n ...int) string {
	var b []byte
	for _, x := range n {
		b = append(b, byte(x>>24), byte(x>>16), byte(x>>8), byte(x))
	}
	return string(b)
}

var good = []struct {
	form  string
	bytes string
	value api.Value
}{
	{"", "", api.Value{}},
	{"u", uints(0), numbers(0)},
	{"u", "\xff\xff\xff\xff", numbers(1<<32 - 1)},
	{"q", "\xff\xff\xff\xff\xff\xff\xff\xff", numbers(-1)},
	{"q", "\x80\x00\x00\x00\x00\x00\x00\x00", numbers(math.MinInt)},
	{"q", "\x7f\xff\xff\xff\xff\xff\xff\xff", numbers(math.MaxInt)},
	{"bb", uints(0, 1), numbers(0, 1)},
	{"o0", uints(0), texts("")},
	{"o3", uints(0), texts("")},
	{"o3", uints(3) + "abc\x00", texts("abc")},
	{"o4", uints(3) + "abc\x00", texts("abc")},
	{"o99999", uints(5) + "\x00\xff\x00\x00\x00\x00\x00\x00", texts("\x00\xff\x00\x00\x00")},
	{"f0", "", texts("")},
	{"f1", "\x00\x00\x00\x00", texts("\x00")},
	{"f8", "abcdefgh", texts("abcdefgh")},
	{"?()", uints(0), numbers(0)},
	{"?()", uints(1), numbers(1)},
	{"?(uo9)", uints(0), numbers(0)},
	{"?(uo9)", uints(1, 7, 1) + "z\x00\x00\x00", api.Value{N: []int{1, 7}, T: []string{"z"}}},
	{"?(u)o8", uints(1, 7, 2) + "ab\x00\x00", api.Value{N: []int{1, 7}, T: []string{"ab"}}},
	{"*(u)", uints(0), numbers(0)},
	{"*(u)", uints(1, 9, 0), numbers(1, 9)},
	{"*(u)u", uints(1, 9, 1, 8, 0, 7), numbers(2, 9, 8, 7)},
	{"*(f0)", uints(1, 1, 1, 0), api.Value{N: []int{3}, T: []string{"", "", ""}}},
	{"*(*(u)b)", uints(1, 1, 5, 1, 6, 0, 1, 1, 0, 0, 0), numbers(2, 2, 5, 6, 1, 0, 0)},
	{"*(?(u))", uints(1, 0, 1, 1, 4, 0), numbers(2, 0, 1, 4)},
	{"*(*(f4))f4", uints(1, 1) + "abcd" + uints(0, 0) + "efgh", api.Value{N: []int{1, 1}, T: []string{"abcd", "efgh"}}},
	{"<0:,1:q>", uints(0), numbers(0)},
	{"<0:,1:q>", uints(1, 0, 2), numbers(1, 2)},
	{"<0:u,99999:f4,-:b>", uints(99999) + "abcd", api.Value{N: []int{99999}, T: []string{"abcd"}}},
	{"<0:u,1:f4,-:b>", "\xff\xff\xff\xff\x00\x00\x00\x01", numbers(1<<32-1, 1)},
	{"<-:u>", uints(0, 3), numbers(0, 3)},
	{"<1:<1:u,-:>,0:>u", uints(1, 1, 8, 9), numbers(1, 1, 8, 9)},
	{"<1:<1:u,-:>,0:>u", uints(1, 2, 9), numbers(1, 2, 9)},
}

// P2.2, P2.3, P2.4: bytes and values that are each other's.
func TestGood(t *testing.T) {
	for _, x := range good {
		if v, e := schema.Decode(x.form, x.bytes); e != api.OK || !same(v, x.value) {
			t.Errorf("Decode %q %x: %v %d", x.form, x.bytes, v, e)
		}
		if s, e := schema.Encode(x.form, x.value); e != api.OK || s != x.bytes {
			t.Errorf("Encode %q %v: %x %d", x.form, x.value, s, e)
		}
	}
}

// P2.2: what Decode refuses.
func TestDecodeWrong(t *testing.T) {
	for _, x := range []struct {
		form, bytes string
		want        api.Errno
	}{
		{"", "\x00", api.ErrTail},
		{"", uints(0), api.ErrTail},
		{"u", uints(0, 0), api.ErrTail},
		{"u", uints(0) + "\x00", api.ErrTail},
		{"*(u)", uints(0, 0), api.ErrTail},
		{"<0:>", uints(0, 0), api.ErrTail},
		{"u", "", api.ErrShort},
		{"u", "\x00\x00\x00", api.ErrShort},
		{"q", uints(0), api.ErrShort},
		{"b", "\x00", api.ErrShort},
		{"f4", "abc", api.ErrShort},
		{"f99999", "abc", api.ErrShort},
		{"f3", "abc", api.ErrShort},
		{"o8", "", api.ErrShort},
		{"o8", uints(4), api.ErrShort},
		{"uu", uints(1), api.ErrShort},
		{"?(u)", "", api.ErrShort},
		{"?(u)", uints(1), api.ErrShort},
		{"*(u)", "", api.ErrShort},
		{"*(u)", uints(1), api.ErrShort},
		{"*(u)", uints(1, 5), api.ErrShort},
		{"*(u)", uints(1, 5, 1), api.ErrShort},
		{"*(f0)", uints(1, 1, 1), api.ErrShort},
		{"<0:u>", "", api.ErrShort},
		{"<1:u>", "", api.ErrShort},
		{"<0:u>", uints(0), api.ErrShort},
		{"b", uints(2), api.ErrForm},
		{"b", "\xff\xff\xff\xff", api.ErrForm},
		{"?()", uints(2), api.ErrForm},
		{"*(u)", uints(2), api.ErrForm},
		{"*(u)", uints(1, 5, 2), api.ErrForm},
		{"f3", "abcd", api.ErrForm},
		{"o8", uints(1) + "a\x00\x00\x01", api.ErrForm},
		{"<0:u,1:u>", uints(2, 0), api.ErrForm},
		{"<0:u>", "\xff\xff\xff\xff" + uints(0), api.ErrForm},
		{"o2", uints(3) + "abc\x00", api.ErrLong},
		{"o2", uints(3), api.ErrLong},
		{"o0", uints(1) + "a\x00\x00\x00", api.ErrLong},
		// The first error is the answer.
		{"bu", uints(2), api.ErrForm},
		{"ub", uints(2), api.ErrShort},
		{"<0:>u", uints(1), api.ErrForm},
		{"<0:>o0", uints(1, 1), api.ErrForm},
		{"o0<0:>", uints(1, 1), api.ErrLong},
		{"f1b", "abcd" + uints(2), api.ErrForm},
		{"*(b)o0", uints(1, 2, 1), api.ErrForm},
		{"*(o0)b", uints(1, 1, 2), api.ErrLong},
		{"b", uints(2, 2), api.ErrForm},
		{"o0<1:>", uints(1), api.ErrLong},
		{"*(u)<1:>", "", api.ErrShort},
		{"b<1:>", uints(2, 1), api.ErrForm},
	} {
		if v, e := schema.Decode(x.form, x.bytes); e != x.want || !isEmpty(v) {
			t.Errorf("Decode %q %x: %v %d, not %d", x.form, x.bytes, v, e, x.want)
		}
	}
}

// P2.3: what Encode refuses.
func TestEncodeWrong(t *testing.T) {
	for _, x := range []struct {
		form  string
		value api.Value
	}{
		{"", numbers(0)},
		{"", texts("")},
		{"u", api.Value{}},
		{"u", numbers(0, 0)},
		{"u", api.Value{N: []int{0}, T: []string{""}}},
		{"u", texts("a")},
		{"u", numbers(-1)},
		{"u", numbers(1 << 32)},
		{"u", numbers(math.MinInt)},
		{"q", api.Value{}},
		{"b", numbers(2)},
		{"b", numbers(-1)},
		{"b", numbers(1 << 32)},
		{"o3", api.Value{}},
		{"o3", texts("abcd")},
		{"o0", texts("a")},
		{"o3", texts("a", "b")},
		{"o3", numbers(0)},
		{"f3", api.Value{}},
		{"f3", texts("ab")},
		{"f3", texts("abcd")},
		{"f3", texts("")},
		{"f0", texts("a")},
		{"f0", api.Value{}},
		{"?(u)", api.Value{}},
		{"?(u)", numbers(1)},
		{"?(u)", numbers(0, 0)},
		{"?(u)", numbers(2, 0)},
		{"?(u)", numbers(-1, 0)},
		{"?()", numbers(2)},
		{"*(u)", api.Value{}},
		{"*(u)", numbers(-1)},
		{"*(u)", numbers(math.MinInt)},
		{"*(u)", numbers(1)},
		{"*(u)", numbers(2, 0)},
		{"*(u)", numbers(0, 0)},
		{"*(u)", numbers(math.MaxInt, 1)},
		{"*(f0)", numbers(math.MaxInt)},
		{"*(*(u))", numbers(math.MaxInt, 0, 0, 0)},
		{"<0:u,1:>", api.Value{}},
		{"<0:u,1:>", numbers(2)},
		{"<0:u,1:>", numbers(0)},
		{"<0:u,1:>", numbers(1, 0)},
		{"<0:u,1:>", numbers(-1)},
		{"<0:u,-:>", numbers(-1)},
		{"<0:u,-:>", numbers(1 << 32)},
		{"<-:>", numbers(-1)},
		{"<-:>", numbers(math.MinInt)},
	} {
		if s, e := schema.Encode(x.form, x.value); e != api.ErrForm || s != "" {
			t.Errorf("Encode %q %v: %x %d", x.form, x.value, s, e)
		}
	}
}

// P2.2, P2.3: MaxText bytes are taken and laid out, and not one more.
func TestLong(t *testing.T) {
	data := strings.Repeat("x", api.MaxText-4)
	most := uints(len(data)) + data
	if v, e := schema.Decode("o99999", most); e != api.OK || !same(v, texts(data)) {
		t.Errorf("Decode: %d", e)
	}
	if s, e := schema.Encode("o99999", texts(data)); e != api.OK || s != most {
		t.Errorf("Encode: %d", e)
	}
	for _, f := range []string{"o99999", "", "b", "o1"} {
		if v, e := schema.Decode(f, most+"\x00"); e != api.ErrLong || !isEmpty(v) {
			t.Errorf("Decode %q of one more: %d", f, e)
		}
	}
	for _, x := range []struct {
		form  string
		value api.Value
		want  api.Errno
	}{
		{"o99999", texts(data + "x"), api.ErrLong},
		{"f65536", texts(data + "xxxx"), api.OK},
		{"f65536f0", texts(data+"xxxx", ""), api.OK},
		{"f65537", texts(data + "xxxxx"), api.ErrLong},
		{"f65536b", api.Value{N: []int{0}, T: []string{data + "xxxx"}}, api.ErrLong},
		{"*(u)", numbers(append([]int{20000}, make([]int, 20000)...)...), api.ErrLong},
		// ErrForm comes ahead, wherever it is.
		{"o99999", texts(data+"x", ""), api.ErrForm},
		{"o99999b", api.Value{N: []int{2}, T: []string{data + "x"}}, api.ErrForm},
		{"*(u)", numbers(append([]int{20001}, make([]int, 20000)...)...), api.ErrForm},
		{"o65000", texts(data + "x"), api.ErrForm},
	} {
		if s, e := schema.Encode(x.form, x.value); e != x.want || e != api.OK && s != "" {
			t.Errorf("Encode %q: %d bytes, %d", x.form, len(s), e)
		}
	}
}

// What is handed in isn't changed, and what is answered is its own.
func TestApart(t *testing.T) {
	n := []int{1, 5, 6, 7}
	s := []string{"ab", "cd"}
	if _, e := schema.Encode("*(u)o2", api.Value{N: n[:2], T: s[:1]}); e != api.OK {
		t.Fatal(e)
	}
	if !slices.Equal(n, []int{1, 5, 6, 7}) || !slices.Equal(s, []string{"ab", "cd"}) {
		t.Error("Encode changed its value")
	}
	bytes := uints(1, 5, 0, 2) + "ab\x00\x00"
	v, _ := schema.Decode("*(u)o2", bytes)
	w, _ := schema.Decode("*(u)o2", bytes)
	v.N[0], v.N[1], v.T[0] = 8, 9, "z"
	if !same(w, api.Value{N: []int{1, 5}, T: []string{"ab"}}) {
		t.Errorf("two answers share memory: %v", w)
	}
}

// drawn is a form by chance; draw tells a value of it, and its bytes.
type drawn struct {
	form string
	draw func() (api.Value, string)
}

func join(v, w api.Value) api.Value {
	return api.Value{N: slices.Concat(v.N, w.N), T: slices.Concat(v.T, w.T)}
}

// drawSign: a sign, with at most that many brackets in one another.
func drawSign(chance *rand.Rand, nest int) drawn {
	kinds := 8
	if nest == 0 {
		kinds = 5
	}
	switch chance.Intn(kinds) {
	case 0:
		return drawn{"u", func() (api.Value, string) {
			n := chance.Intn(1 << uint(chance.Intn(33)))
			return numbers(n), uints(n)
		}}
	case 1:
		return drawn{"q", func() (api.Value, string) {
			n := int(chance.Uint64()) >> uint(chance.Intn(64))
			return numbers(n), uints(n>>32, n)
		}}
	case 2:
		return drawn{"b", func() (api.Value, string) {
			n := chance.Intn(2)
			return numbers(n), uints(n)
		}}
	case 3:
		most := chance.Intn(12)
		return drawn{"o" + strconv.Itoa(most), func() (api.Value, string) {
			s := drawText(chance, chance.Intn(most+1))
			return texts(s), uints(len(s)) + filled(s)
		}}
	case 4:
		size := chance.Intn(12)
		return drawn{"f" + strconv.Itoa(size), func() (api.Value, string) {
			s := drawText(chance, size)
			return texts(s), filled(s)
		}}
	case 5:
		return drawMaybe(chance, drawRow(chance, nest-1))
	case 6:
		one, rest := drawSign(chance, nest-1), drawRow(chance, nest-1)
		return drawTimes(chance, drawn{one.form + rest.form, func() (api.Value, string) {
			v, s := one.draw()
			w, u := rest.draw()
			return join(v, w), s + u
		}})
	}
	return drawChoice(chance, nest)
}

func drawText(chance *rand.Rand, size int) string {
	b := make([]byte, size)
	for i := range b {
		b[i] = byte(chance.Intn(256))
	}
	return string(b)
}

func filled(s string) string { return s + "\x00\x00\x00"[:(4-len(s)%4)%4] }

func drawRow(chance *rand.Rand, nest int) drawn {
	var signs []drawn
	form := ""
	for range chance.Intn(3) {
		signs = append(signs, drawSign(chance, nest))
		form += signs[len(signs)-1].form
	}
	return drawn{form, func() (v api.Value, s string) {
		for _, x := range signs {
			w, u := x.draw()
			v, s = join(v, w), s+u
		}
		return v, s
	}}
}

func drawMaybe(chance *rand.Rand, inner drawn) drawn {
	return drawn{"?(" + inner.form + ")", func() (api.Value, string) {
		if chance.Intn(2) == 0 {
			return numbers(0), uints(0)
		}
		v, s := inner.draw()
		return join(numbers(1), v), uints(1) + s
	}}
}

func drawTimes(chance *rand.Rand, inner drawn) drawn {
	return drawn{"*(" + inner.form + ")", func() (api.Value, string) {
		count := chance.Intn(4)
		v, s := numbers(count), ""
		for range count {
			w, u := inner.draw()
			v, s = join(v, w), s+uints(1)+u
		}
		return v, s + uints(0)
	}}
}

func drawChoice(chance *rand.Rand, nest int) drawn {
	var keys []int
	var arms []drawn
	var form []string
	for range 1 + chance.Intn(3) {
		k := chance.Intn(100000) >> uint(chance.Intn(17))
		if slices.Contains(keys, k) {
			continue
		}
		keys = append(keys, k)
		arms = append(arms, drawRow(chance, nest-1))
		form = append(form, strconv.Itoa(k)+":"+arms[len(arms)-1].form)
	}
	if chance.Intn(2) == 0 {
		keys = append(keys, 100000+chance.Intn(1<<31))
		arms = append(arms, drawRow(chance, nest-1))
		form = append(form, "-:"+arms[len(arms)-1].form)
	}
	return drawn{"<" + strings.Join(form, ",") + ">", func() (api.Value, string) {
		i := chance.Intn(len(arms))
		v, s := arms[i].draw()
		return join(numbers(keys[i]), v), uints(keys[i]) + s
	}}
}

// P2.4: forms and values by chance, both ways.
func TestBothWays(t *testing.T) {
	chance := rand.New(rand.NewSource(1))
	for range 20000 {
		x := drawSign(chance, 3)
		v, s := x.draw()
		if w, e := schema.Decode(x.form, s); e != api.OK || !same(w, v) {
			t.Fatalf("Decode %q %x: %v %d, not %v", x.form, s, w, e, v)
		}
		if u, e := schema.Encode(x.form, v); e != api.OK || u != s {
			t.Fatalf("Encode %q %v: %x %d, not %x", x.form, v, u, e, s)
		}
		spoilBytes(t, chance, x.form, s)
		spoilValue(t, chance, x.form, v)
	}
}

// spoilBytes: what Decode takes of spoilt bytes is encoded as just these.
func spoilBytes(t *testing.T, chance *rand.Rand, form, s string) {
	at := chance.Intn(len(s) + 1)
	end := min(at+chance.Intn(5), len(s))
	spoilt := s[:at] + drawText(chance, chance.Intn(end-at+2)) + s[end:]
	v, e := schema.Decode(form, spoilt)
	if e != api.OK {
		if !isEmpty(v) {
			t.Fatalf("Decode %q %x: %v beside %d", form, spoilt, v, e)
		}
		return
	}
	if u, e := schema.Encode(form, v); e != api.OK || u != spoilt {
		t.Fatalf("Encode %q %v: %x %d, not %x", form, v, u, e, spoilt)
	}
}

// spoilValue: what Encode lays out of a spoilt value is decoded as just that one.
func spoilValue(t *testing.T, chance *rand.Rand, form string, v api.Value) {
	spoilt := api.Value{N: slices.Clone(v.N), T: slices.Clone(v.T)}
	switch n, s := len(v.N), len(v.T); {
	case n > 0 && chance.Intn(2) == 0:
		spoilt.N[chance.Intn(n)] += []int{-1, 1, -1 << 32, 1 << 32}[chance.Intn(4)]
	case n > 0 && chance.Intn(2) == 0:
		spoilt.N = spoilt.N[:n-1]
	case s > 0 && chance.Intn(2) == 0:
		spoilt.T[chance.Intn(s)] += "\x00"
	case s > 0 && chance.Intn(2) == 0:
		spoilt.T = spoilt.T[1:]
	default:
		spoilt.N = append(spoilt.N, 0)
	}
	u, e := schema.Encode(form, spoilt)
	if e != api.OK {
		if e != api.ErrForm || u != "" {
			t.Fatalf("Encode %q %v: %x beside %d", form, spoilt, u, e)
		}
		return
	}
	if w, e := schema.Decode(form, u); e != api.OK || !same(w, spoilt) {
		t.Fatalf("Decode %q %x: %v %d, not %v", form, u, w, e, spoilt)
	}
}
