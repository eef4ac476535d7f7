package rpc_test

import (
	"math"
	"math/rand"
	"slices"
	"strings"
	"testing"

	"coracle/api"
	"coracle/rpc"
)

// The verdicts have RFC 5531's numbers.
func TestVerdicts(t *testing.T) {
	if !slices.Equal([]int{rpc.Success, rpc.ProgUnavail, rpc.ProgMismatch, rpc.ProcUnavail, rpc.GarbageArgs, rpc.SystemErr, rpc.RPCMismatch, rpc.AuthError}, []int{0, 1, 2, 3, 4, 5, 6, 7}) {
		t.Error("verdicts")
	}
}

var replies = []struct {
	reply rpc.Reply
	bytes string
}{
	{rpc.Reply{}, uints(0, 1, 0, 0, 0, 0)},
	{rpc.Reply{Xid: most}, uints(most, 1, 0, 0, 0, 0)},
	{rpc.Reply{Xid: 5, Body: "abcd\x00\x00\x00\x00"}, uints(5, 1, 0, 0, 0, 0) + "abcd\x00\x00\x00\x00"},
	{rpc.Reply{Xid: 5, Verdict: 1}, uints(5, 1, 0, 0, 0, 1)},
	{rpc.Reply{Xid: 5, Verdict: 2}, uints(5, 1, 0, 0, 0, 2, 0, 0)},
	{rpc.Reply{Xid: 5, Verdict: 2, Low: 3, High: 4}, uints(5, 1, 0, 0, 0, 2, 3, 4)},
	{rpc.Reply{Xid: 5, Verdict: 2, Low: most, High: most}, uints(5, 1, 0, 0, 0, 2, most, most)},
	{rpc.Reply{Xid: 5, Verdict: 3}, uints(5, 1, 0, 0, 0, 3)},
	{rpc.Reply{Xid: 5, Verdict: 4}, uints(5, 1, 0, 0, 0, 4)},
	{rpc.Reply{Xid: 5, Verdict: 5}, uints(5, 1, 0, 0, 0, 5)},
	{rpc.Reply{Xid: 5, Verdict: 6}, uints(5, 1, 1, 0, 0, 0)},
	{rpc.Reply{Xid: 5, Verdict: 6, Low: 4, High: 2}, uints(5, 1, 1, 0, 4, 2)},
	{rpc.Reply{Xid: 5, Verdict: 7}, uints(5, 1, 1, 1, 0)},
	{rpc.Reply{Xid: 5, Verdict: 7, Low: most}, uints(5, 1, 1, 1, most)},
}

// P3.3: replies and bytes that are each other's.
func TestReplies(t *testing.T) {
	for _, x := range replies {
		if s, e := rpc.PutReply(x.reply); e != api.OK || s != x.bytes {
			t.Errorf("PutReply %v: %x %d", x.reply, s, e)
		}
		if r, e := rpc.GetReply(x.bytes); e != api.OK || r != x.reply {
			t.Errorf("GetReply %x: %v %d", x.bytes, r, e)
		}
	}
}

// P3.3: which of Low, High and Body each verdict has.
func TestPutReplyFields(t *testing.T) {
	for verdict, has := range []string{"B", "", "LH", "", "", "", "LH", "L"} {
		for field, r := range map[string]rpc.Reply{
			"L": {Verdict: verdict, Low: 1},
			"H": {Verdict: verdict, High: 1},
			"B": {Verdict: verdict, Body: "abcd"},
		} {
			want := api.ErrForm
			if strings.Contains(has, field) {
				want = api.OK
			}
			if s, e := rpc.PutReply(r); e != want || (s == "") != (e != api.OK) {
				t.Errorf("verdict %d with %s: %x %d", verdict, field, s, e)
			}
		}
	}
}

// P3.3: what PutReply refuses with ErrForm, ahead of ErrLong.
func TestPutReplyForm(t *testing.T) {
	var wrong []rpc.Reply
	for _, n := range []int{-1, most + 1, math.MinInt, math.MaxInt} {
		for verdict := range 8 {
			wrong = append(wrong, rpc.Reply{Verdict: verdict, Xid: n}, rpc.Reply{Verdict: verdict, Low: n}, rpc.Reply{Verdict: verdict, High: n})
		}
	}
	for _, n := range []int{-1, 8, 9, math.MinInt, math.MaxInt, 1 << 32} {
		wrong = append(wrong, rpc.Reply{Verdict: n})
	}
	for _, r := range wrong {
		for _, body := range []string{"", "a", "abcd", strings.Repeat("a", api.MaxText)} {
			r.Body = body
			if s, e := rpc.PutReply(r); e != api.ErrForm || s != "" {
				t.Errorf("%.80v: %d", r, e)
			}
		}
	}
	for verdict := 1; verdict < 8; verdict++ {
		for _, body := range []string{"a", strings.Repeat("a", api.MaxText)} {
			if s, e := rpc.PutReply(rpc.Reply{Verdict: verdict, Body: body}); e != api.ErrForm || s != "" {
				t.Errorf("verdict %d with a body: %d", verdict, e)
			}
		}
	}
}

// P3.3: Body in fours, and MaxText bytes in all at the most, put or taken.
func TestReplyLong(t *testing.T) {
	for _, n := range []int{1, 2, 3, 7, api.MaxText - 24 - 1} {
		if s, e := rpc.PutReply(rpc.Reply{Body: strings.Repeat("a", n)}); e != api.ErrLong || s != "" {
			t.Errorf("a body of %d: %d", n, e)
		}
	}
	r := rpc.Reply{Xid: 1, Body: strings.Repeat("abcd", (api.MaxText-24)/4)}
	s, e := rpc.PutReply(r)
	if e != api.OK || len(s) != api.MaxText {
		t.Errorf("MaxText bytes: %d, %d", len(s), e)
	}
	if q, e := rpc.GetReply(s); e != api.OK || q != r {
		t.Errorf("GetReply of MaxText bytes: %d", e)
	}
	r.Body += "abcd"
	if s, e := rpc.PutReply(r); e != api.ErrLong || s != "" {
		t.Errorf("more than MaxText bytes: %d", e)
	}
	for _, long := range []string{s + "a", s + "abcd", strings.Repeat("\xff", api.MaxText+1)} {
		if q, e := rpc.GetReply(long); e != api.ErrLong || q != (rpc.Reply{}) {
			t.Errorf("GetReply of %d bytes: %d", len(long), e)
		}
	}
	if q, e := rpc.GetReply(strings.Repeat("\xff", api.MaxText)); e != api.ErrForm || q != (rpc.Reply{}) {
		t.Errorf("GetReply of MaxText bytes FF: %d", e)
	}
}

// P3.3: what is no reply.
func TestGetReplyForm(t *testing.T) {
	for what, s := range map[string]string{
		"nothing":                    "",
		"an Xid":                     uints(5),
		"a call":                     uints(5, 0, 2, 0, 0, 0) + noAuth + noAuth,
		"of the kind 0":              uints(5, 0, 0, 0, 0, 0),
		"of the kind 2":              uints(5, 2, 0, 0, 0, 0),
		"neither accepted nor not":   uints(5, 1, 2, 0, 0, 0),
		"a verifier of another kind": uints(5, 1, 0, 1, 0, 0),
		"a verifier with bytes":      uints(5, 1, 0, 0, 4, 0, 0),
		"a great verifier":           uints(5, 1, 0, 0, most, 0),
		"no verdict":                 uints(5, 1, 0, 0, 0),
		"verdict 6":                  uints(5, 1, 0, 0, 0, 6),
		"verdict 6 with Low, High":   uints(5, 1, 0, 0, 0, 6, 2, 2),
		"verdict 7 with Low":         uints(5, 1, 0, 0, 0, 7, 1),
		"verdict 8":                  uints(5, 1, 0, 0, 0, 8),
		"the greatest verdict":       uints(5, 1, 0, 0, 0, most),
		"a body not in fours":        uints(5, 1, 0, 0, 0, 0) + "abc",
		"ProgUnavail with a body":    uints(5, 1, 0, 0, 0, 1, 0),
		"ProgMismatch without High":  uints(5, 1, 0, 0, 0, 2, 3),
		"ProgMismatch without both":  uints(5, 1, 0, 0, 0, 2),
		"ProgMismatch with a body":   uints(5, 1, 0, 0, 0, 2, 3, 3, 0),
		"RPCMismatch without High":   uints(5, 1, 1, 0, 2),
		"RPCMismatch with more":      uints(5, 1, 1, 0, 2, 2, 0),
		"AuthError without Low":      uints(5, 1, 1, 1),
		"AuthError with High":        uints(5, 1, 1, 1, 1, 0),
		"refused otherwise":          uints(5, 1, 1, 2, 0),
		"refused otherwise, longer":  uints(5, 1, 1, 2, 0, 0),
		"a byte more":                uints(5, 1, 1, 1, 1) + "\x00",
		"a byte less":                uints(5, 1, 1, 1, 1)[:19],
	} {
		if r, e := rpc.GetReply(s); e != api.ErrForm || r != (rpc.Reply{}) {
			t.Errorf("%s: %v %d", what, r, e)
		}
	}
}

// isReply: are these bytes a reply's? Told by places.
func isReply(s string) bool {
	if len(s)%4 != 0 || len(s) < 20 || number(s, 4) != 1 {
		return false
	}
	if number(s, 8) == 1 {
		return number(s, 12) == 0 && len(s) == 24 || number(s, 12) == 1 && len(s) == 20
	}
	if number(s, 8) != 0 || number(s, 12) != 0 || number(s, 16) != 0 {
		return false
	}
	switch number(s, 20) {
	case 0:
		return true
	case 1, 3, 4, 5:
		return len(s) == 24
	case 2:
		return len(s) == 32
	}
	return false
}

// P3.3: bytes are taken where they are a reply's, and then they are its PutReply.
func seenReply(t *testing.T, s string) {
	t.Helper()
	r, e := rpc.GetReply(s)
	if !isReply(s) {
		if e != api.ErrForm || r != (rpc.Reply{}) {
			t.Fatalf("%x: %v %d", s, r, e)
		}
		return
	}
	if u, f := rpc.PutReply(r); e != api.OK || f != api.OK || u != s {
		t.Fatalf("%x: %v %d, PutReply is %x %d", s, r, e, u, f)
	}
}

// P3.3: replies by chance, and spoilt ones.
func TestRepliesSpoilt(t *testing.T) {
	for _, x := range replies {
		s := x.bytes
		for n := range len(s) + 1 {
			seenReply(t, s[:n])
			seenReply(t, s[:n]+uints(0)+s[n:])
			seenReply(t, s[:n]+"\x01"+s[n:])
		}
		for at := range len(s) {
			for b := range 256 {
				seenReply(t, s[:at]+string([]byte{byte(b)})+s[at+1:])
			}
		}
	}
	chance := rand.New(rand.NewSource(4))
	for range 20000 {
		numbers := []int{drawUint(chance), 1}
		for range 2 + chance.Intn(6) {
			numbers = append(numbers, chance.Intn(3)*chance.Intn(4))
		}
		seenReply(t, uints(numbers...))
	}
}
