package rpc_test

import (
	"math"
	"math/rand"
	"slices"
	"strings"
	"testing"

	"coracle/api"
	"coracle/rpc"
)

// uints: Uints as bytes.
func uints(l ...int) string {
	var b []byte
	for _, n := range l {
		b = append(b, byte(n>>24), byte(n>>16), byte(n>>8), byte(n))
	}
	return string(b)
}

// opaque: a length and so many bytes, filled up to a multiple of four.
func opaque(s string) string {
	return uints(len(s)) + s + strings.Repeat("\x00", (4-len(s)%4)%4)
}

const (
	most   = 1<<32 - 1
	noAuth = "\x00\x00\x00\x00\x00\x00\x00\x00"
)

// head: all ahead of the credential.
var head = uints(7, 0, 2, 100003, 3, 1)

func sameCall(c, d rpc.Call) bool {
	groups := slices.Equal(c.Who.Groups, d.Who.Groups)
	c.Who.Groups, d.Who.Groups = nil, nil
	return groups && c.Xid == d.Xid && c.Prog == d.Prog && c.Vers == d.Vers && c.Proc == d.Proc &&
		c.Unix == d.Unix && c.Stamp == d.Stamp && c.Machine == d.Machine &&
		c.Who.UID == d.Who.UID && c.Who.GID == d.Who.GID && c.Args == d.Args
}

func isNoCall(c rpc.Call) bool { return sameCall(c, rpc.Call{}) }

// manyGroups: n groups, n below 256.
func manyGroups(n int) []int {
	l := make([]int, n)
	for i := range l {
		l[i] = most - i
	}
	return l
}

var calls = []struct {
	call  rpc.Call
	bytes string
}{
	{rpc.Call{}, uints(0, 0, 2, 0, 0, 0) + noAuth + noAuth},
	{rpc.Call{Xid: 1, Prog: 100003, Vers: 3}, uints(1, 0, 2, 100003, 3, 0) + noAuth + noAuth},
	{rpc.Call{Xid: 1, Prog: 2, Vers: 3, Proc: 4, Args: "abcd"}, uints(1, 0, 2, 2, 3, 4) + noAuth + noAuth + "abcd"},
	{rpc.Call{Xid: most, Prog: most, Vers: most, Proc: most}, uints(most, 0, 2, most, most, most) + noAuth + noAuth},
	{rpc.Call{Xid: 7, Prog: 100003, Vers: 3, Proc: 1, Args: "\x00\xff\x00\x00\x00\x00\x00\x00"}, head + noAuth + noAuth + "\x00\xff\x00\x00\x00\x00\x00\x00"},
	{rpc.Call{Xid: 7, Prog: 100003, Vers: 3, Proc: 1, Unix: true},
		head + uints(1, 20, 0, 0, 0, 0, 0) + noAuth},
	{rpc.Call{Xid: 7, Prog: 100003, Vers: 3, Proc: 1, Unix: true, Stamp: 9, Machine: "host1", Who: api.Who{UID: 5, GID: 6, Groups: []int{8, 0, 8}}, Args: "wxyz"},
		head + uints(1, 40, 9) + opaque("host1") + uints(5, 6, 3, 8, 0, 8) + noAuth + "wxyz"},
	{rpc.Call{Xid: 7, Prog: 100003, Vers: 3, Proc: 1, Unix: true, Stamp: most, Machine: strings.Repeat("m", 255), Who: api.Who{UID: most, GID: most, Groups: manyGroups(16)}},
		head + uints(1, 340, most) + opaque(strings.Repeat("m", 255)) + uints(most, most, 16) + uints(manyGroups(16)...) + noAuth},
}

// P3.1, P3.2, P3.4: calls and bytes that are each other's.
func TestCalls(t *testing.T) {
	for i, x := range calls {
		if s, e := rpc.PutCall(x.call); e != api.OK || s != x.bytes {
			t.Errorf("PutCall %d: %x %d", i, s, e)
		}
		if c, r, e := rpc.GetCall(x.bytes); e != api.OK || r != "" || !sameCall(c, x.call) {
			t.Errorf("GetCall %d: %v %x %d", i, c, r, e)
		}
	}
	if s, _ := rpc.PutCall(rpc.Call{Xid: 1, Prog: 100003, Vers: 3}); len(s) != 40 {
		t.Errorf("the example has %d bytes", len(s))
	}
	if s, e := rpc.PutCall(rpc.Call{Who: api.Who{Groups: []int{}}}); e != api.OK || len(s) != 40 {
		t.Errorf("an empty list of groups: %d", e)
	}
}

// P3.1: what PutCall refuses with ErrForm, whatever Args are.
func TestPutCallForm(t *testing.T) {
	wrong := map[string]rpc.Call{
		"a machine of 256": {Unix: true, Machine: strings.Repeat("m", 256)},
		"17 groups":        {Unix: true, Who: api.Who{Groups: make([]int, 17)}},
		"a stamp alone":    {Stamp: 1},
		"a machine alone":  {Machine: "m"},
		"a UID alone":      {Who: api.Who{UID: 1}},
		"a GID alone":      {Who: api.Who{GID: 1}},
		"a group alone":    {Who: api.Who{Groups: []int{0}}},
	}
	for _, n := range []int{-1, most + 1, math.MinInt, math.MaxInt} {
		for what, c := range map[string]rpc.Call{
			"Xid": {Xid: n}, "Prog": {Prog: n}, "Vers": {Vers: n}, "Proc": {Proc: n},
			"Unix Xid": {Unix: true, Xid: n}, "Unix Proc": {Unix: true, Proc: n},
			"Stamp":        {Unix: true, Stamp: n},
			"UID":          {Unix: true, Who: api.Who{UID: n}},
			"GID":          {Unix: true, Who: api.Who{GID: n}},
			"group":        {Unix: true, Who: api.Who{Groups: []int{n}}},
			"last group":   {Unix: true, Who: api.Who{Groups: []int{1, 2, n}}},
			"Stamp alone":  {Stamp: n},
			"UID alone":    {Who: api.Who{UID: n}},
			"GID alone":    {Who: api.Who{GID: n}},
			"groups alone": {Who: api.Who{Groups: []int{n}}},
		} {
			wrong[what+" "+uints(n>>32, n)] = c
		}
	}
	for what, c := range wrong {
		for _, args := range []string{"", "abcd", "a", strings.Repeat("a", api.MaxText)} {
			c.Args = args
			if s, e := rpc.PutCall(c); e != api.ErrForm || s != "" {
				t.Errorf("%q with %d bytes: %x %d", what, len(args), s, e)
			}
		}
	}
}

// P3.1: Args in fours, and MaxText bytes in all at the most.
func TestPutCallLong(t *testing.T) {
	for _, n := range []int{1, 2, 3, 5, api.MaxText - 40 - 1} {
		if s, e := rpc.PutCall(rpc.Call{Args: strings.Repeat("a", n)}); e != api.ErrLong || s != "" {
			t.Errorf("Args of %d: %d", n, e)
		}
	}
	for _, x := range []struct {
		call rpc.Call
		head int
	}{
		{rpc.Call{}, 40},
		{rpc.Call{Unix: true}, 60},
		{rpc.Call{Unix: true, Machine: "m", Who: api.Who{Groups: []int{1}}}, 68},
	} {
		x.call.Args = strings.Repeat("abcd", (api.MaxText-x.head)/4)
		s, e := rpc.PutCall(x.call)
		if e != api.OK || len(s) != api.MaxText {
			t.Errorf("MaxText bytes: %d, %d", len(s), e)
		}
		if c, _, e := rpc.GetCall(s); e != api.OK || !sameCall(c, x.call) {
			t.Errorf("GetCall of MaxText bytes: %d", e)
		}
		x.call.Args += "abcd"
		if s, e := rpc.PutCall(x.call); e != api.ErrLong || s != "" {
			t.Errorf("more than MaxText bytes: %d", e)
		}
	}
}

// P3.2: what gets no reply.
func TestGetCallNoReply(t *testing.T) {
	long := strings.Repeat("\x00", api.MaxText+1)
	for _, x := range []struct {
		bytes string
		want  api.Errno
	}{
		{"", api.ErrShort},
		{"abc", api.ErrShort},
		{uints(1), api.ErrShort},
		{uints(1, 0)[:7], api.ErrShort},
		{uints(1, 9)[:7], api.ErrShort},
		{uints(1, 1), api.ErrForm},
		{uints(1, 2), api.ErrForm},
		{uints(1, most), api.ErrForm},
		{uints(1, 1<<24), api.ErrForm},
		{uints(7, 1, 2, 100003, 3, 1) + noAuth + noAuth, api.ErrForm},
		{uints(7, 1, 3), api.ErrForm},
		{long, api.ErrLong},
		{uints(1, 1) + long, api.ErrLong},
		{calls[1].bytes + long, api.ErrLong},
	} {
		if c, r, e := rpc.GetCall(x.bytes); e != x.want || r != "" || !isNoCall(c) {
			t.Errorf("%.20x: %v %x %d", x.bytes, c, r, e)
		}
	}
	if _, r, e := rpc.GetCall(long[1:]); e != api.ErrBad || r == "" {
		t.Errorf("MaxText noughts: %d", e)
	}
}

// The replies of refusals, for the Xid 7.
var (
	otherRPC      = uints(7, 1, 1, 0, 2, 2)
	garbage       = uints(7, 1, 0, 0, 0, 4)
	badCredential = uints(7, 1, 1, 1, 1)
	tooWeak       = uints(7, 1, 1, 1, 5)
	badVerifier   = uints(7, 1, 1, 1, 3)
)

// unix: a credential of AUTH_SYS with anything in it.
func unix(body string) string { return uints(1) + opaque(body) }

var refusals = []struct {
	what, bytes, reply string
}{
	{"no version", uints(7, 0), otherRPC},
	{"a part of a version", uints(7, 0, 2)[:11], otherRPC},
	{"version 0", uints(7, 0, 0, 100003, 3, 1) + noAuth + noAuth, otherRPC},
	{"version 1", uints(7, 0, 1, 100003, 3, 1) + noAuth + noAuth, otherRPC},
	{"version 3, and nothing else", uints(7, 0, 3), otherRPC},
	{"a great version", uints(7, 0, 1<<24|2), otherRPC},
	{"no Prog", uints(7, 0, 2), garbage},
	{"no Vers", uints(7, 0, 2, 100003), garbage},
	{"no Proc", uints(7, 0, 2, 100003, 3), garbage},
	{"a part of Proc", head[:23], garbage},
	{"no credential", head, badCredential},
	{"a part of its Uint", head + "\x00\x00\x00", badCredential},
	{"no Opaque", head + uints(0), badCredential},
	{"no Opaque of another", head + uints(9), badCredential},
	{"an Opaque that isn't there", head + uints(0, 4), badCredential},
	{"an Opaque that isn't all there", head + uints(9, 5) + "abcde\x00\x00", badCredential},
	{"an Opaque of 401", head + uints(1) + opaque(strings.Repeat("a", 401)) + noAuth, badCredential},
	{"an Opaque of 401 of another", head + uints(9) + opaque(strings.Repeat("a", 401)) + noAuth, badCredential},
	{"a great Opaque", head + uints(0, most) + noAuth, badCredential},
	{"wrong noughts", head + uints(9, 1) + "a\x00\x00\x01" + noAuth, badCredential},
	{"an Opaque of 400 of another", head + uints(2) + opaque(strings.Repeat("a", 400)) + noAuth, tooWeak},
	{"another, empty", head + uints(2, 0) + noAuth, tooWeak},
	{"another, the greatest", head + uints(most, 0) + noAuth, tooWeak},
	{"another, and no verifier", head + uints(6, 0), tooWeak},
	{"AUTH_NONE with a byte", head + uints(0) + opaque("\x00") + noAuth, badCredential},
	{"AUTH_NONE with AUTH_SYS in it", head + uints(0) + opaque(uints(0, 0, 0, 0, 0)) + noAuth, badCredential},
	{"AUTH_SYS, empty", head + unix("") + noAuth, badCredential},
	{"AUTH_SYS, empty, and no verifier", head + unix(""), badCredential},
	{"AUTH_SYS without groups", head + unix(uints(1)+opaque("m")+uints(5, 6)) + noAuth, badCredential},
	{"AUTH_SYS without a group", head + unix(uints(1)+opaque("m")+uints(5, 6, 2, 8)) + noAuth, badCredential},
	{"AUTH_SYS with a part of a group", head + unix(uints(1, 0, 5, 6, 1)+"abc") + noAuth, badCredential},
	{"AUTH_SYS with a group more", head + unix(uints(1)+opaque("m")+uints(5, 6, 1, 8, 9)) + noAuth, badCredential},
	{"AUTH_SYS with a byte more", head + unix(uints(1)+opaque("m")+uints(5, 6, 0)+"\x00") + noAuth, badCredential},
	{"AUTH_SYS with 17 groups", head + unix(uints(1)+opaque("m")+uints(5, 6, 17)+uints(manyGroups(17)...)) + noAuth, badCredential},
	{"AUTH_SYS with the most groups", head + unix(uints(1)+opaque("m")+uints(5, 6, most)) + noAuth, badCredential},
	{"a machine of 256", head + unix(uints(1)+opaque(strings.Repeat("m", 256))+uints(5, 6, 0)) + noAuth, badCredential},
	{"a machine with wrong noughts", head + unix(uints(1, 1)+"m\x00\x01\x00"+uints(5, 6, 0)) + noAuth, badCredential},
	{"no verifier", head + noAuth, badVerifier},
	{"no verifier of AUTH_SYS", head + unix(uints(0, 0, 0, 0, 0)), badVerifier},
	{"a verifier without its Opaque", head + noAuth + uints(0), badVerifier},
	{"a part of a verifier", head + noAuth + noAuth[:7], badVerifier},
	{"a verifier of another kind", head + noAuth + uints(1, 0), badVerifier},
	{"a verifier of AUTH_SYS", head + noAuth + unix(uints(0, 0, 0, 0, 0)), badVerifier},
	{"a verifier with bytes", head + noAuth + uints(0) + opaque("abcd"), badVerifier},
	{"a verifier with bytes that aren't there", head + noAuth + uints(0, 4), badVerifier},
	{"Args of one byte", head + noAuth + noAuth + "a", badVerifier},
	{"Args of seven bytes", head + unix(uints(0, 0, 0, 0, 0)) + noAuth + "abcdefg", badVerifier},
}

// P3.2: what is refused by a reply, and that the first fault tells which.
func TestGetCallRefused(t *testing.T) {
	for _, x := range refusals {
		c, r, e := rpc.GetCall(x.bytes)
		if e != api.ErrBad || r != x.reply || !isNoCall(c) {
			t.Errorf("%s: %v %x %d", x.what, c, r, e)
		}
		for _, xid := range []int{0, most} {
			if _, r, _ := rpc.GetCall(uints(xid) + x.bytes[4:]); r != uints(xid)+x.reply[4:] {
				t.Errorf("%s, for the Xid %d: %x", x.what, xid, r)
			}
		}
	}
}

// number: the Uint at a place, or -1, where it isn't there.
func number(s string, at int) int {
	if at+4 > len(s) {
		return -1
	}
	return int(s[at])<<24 | int(s[at+1])<<16 | int(s[at+2])<<8 | int(s[at+3])
}

// behind: the place behind an Opaque at a place, and its bytes; -1, where it can't be taken.
func behind(s string, at, atMost int) (int, string) {
	n := number(s, at)
	end := at + 4 + (n+3)/4*4
	if n < 0 || n > atMost || end > len(s) || strings.Trim(s[at+4+n:end], "\x00") != "" {
		return -1, ""
	}
	return end, s[at+4 : at+4+n]
}

// isUnix: is it what an AUTH_SYS credential holds? Told by places.
func isUnix(s string) bool {
	at, _ := behind(s, 4, 255)
	if at < 0 {
		return false
	}
	groups := number(s, at+8)
	return groups >= 0 && groups <= 16 && len(s) == at+12+4*groups
}

// refusalOf: the reply that refuses bytes of a call with the Xid 7, told by places; empty, where they are one.
func refusalOf(s string) string {
	end, body := behind(s, 28, 400)
	switch kind := number(s, 24); {
	case number(s, 8) != 2:
		return otherRPC
	case len(s) < 24:
		return garbage
	case kind < 0 || end < 0:
		return badCredential
	case kind > 1:
		return tooWeak
	case kind == 0 && body != "" || kind == 1 && !isUnix(body):
		return badCredential
	case number(s, end) != 0 || number(s, end+4) != 0 || len(s)%4 != 0:
		return badVerifier
	}
	return ""
}

// seen: bytes of the Xid 7 and the kind 0 are refused just as refusalOf tells; else they are the PutCall of their call.
func seen(t *testing.T, s string) {
	t.Helper()
	c, r, e := rpc.GetCall(s)
	if want := refusalOf(s); want != "" {
		if e != api.ErrBad || r != want || !isNoCall(c) {
			t.Fatalf("%x: %v %x %d, not %x", s, c, r, e, want)
		}
		return
	}
	if e != api.OK || r != "" {
		t.Fatalf("%x: %x %d", s, r, e)
	}
	if u, e := rpc.PutCall(c); e != api.OK || u != s {
		t.Fatalf("%x: PutCall is %x %d", s, u, e)
	}
}

// P3.2, P3.4: all beginnings of calls, and all calls with one byte changed.
func TestGetCallSpoilt(t *testing.T) {
	for _, x := range calls {
		s := uints(7) + x.bytes[4:]
		for n := 8; n <= len(s); n++ {
			seen(t, s[:n])
		}
		for at := 8; at < len(s); at++ {
			for _, b := range []byte{0, 1, 2, 3, 4, 16, 17, 128, 255, s[at] + 1, s[at] ^ 4} {
				seen(t, s[:at]+string([]byte{b})+s[at+1:])
			}
			seen(t, s[:at]+s[at+1:])
			seen(t, s[:at]+"\x00"+s[at:])
			seen(t, s[:at]+uints(0)+s[at:])
			seen(t, s[:at]+uints(1)+s[at:])
		}
	}
	for _, x := range refusals {
		seen(t, x.bytes)
	}
}

func drawUint(chance *rand.Rand) int { return chance.Intn(1 << uint(chance.Intn(33))) }

func drawText(chance *rand.Rand, n int) string {
	b := make([]byte, n)
	for i := range b {
		b[i] = byte(chance.Intn(256))
	}
	return string(b)
}

func drawCall(chance *rand.Rand) rpc.Call {
	c := rpc.Call{Xid: 7, Prog: drawUint(chance), Vers: drawUint(chance), Proc: drawUint(chance)}
	c.Args = drawText(chance, 4*chance.Intn(5))
	if chance.Intn(3) > 0 {
		c.Unix, c.Stamp, c.Machine = true, drawUint(chance), drawText(chance, chance.Intn(1<<uint(chance.Intn(9))))
		c.Who = api.Who{UID: drawUint(chance), GID: drawUint(chance)}
		for range chance.Intn(api.MaxGroups + 1) {
			c.Who.Groups = append(c.Who.Groups, drawUint(chance))
		}
	}
	return c
}

// P3.4: calls by chance, and their bytes spoilt.
func TestCallsByChance(t *testing.T) {
	chance := rand.New(rand.NewSource(3))
	for range 20000 {
		c := drawCall(chance)
		s, e := rpc.PutCall(c)
		if e != api.OK {
			t.Fatalf("PutCall %v: %d", c, e)
		}
		if d, r, e := rpc.GetCall(s); e != api.OK || r != "" || !sameCall(c, d) {
			t.Fatalf("GetCall %x: %v %d", s, d, e)
		}
		at := 8 + chance.Intn(len(s)-8)
		end := min(at+chance.Intn(5), len(s))
		seen(t, s[:at]+drawText(chance, chance.Intn(5))+s[end:])
		seen(t, s[:at]+uints(chance.Intn(3))+s[min(at+4, len(s)):])
	}
}

// What is handed in isn't changed, and what is answered is its own.
func TestCallApart(t *testing.T) {
	groups := []int{1, 2, 3, 4}
	s, _ := rpc.PutCall(rpc.Call{Unix: true, Who: api.Who{Groups: groups[:2]}})
	c, _, _ := rpc.GetCall(s)
	d, _, _ := rpc.GetCall(s)
	c.Who.Groups[0] = 9
	_ = append(c.Who.Groups, 9)
	if !slices.Equal(groups, []int{1, 2, 3, 4}) || !slices.Equal(d.Who.Groups, []int{1, 2}) {
		t.Errorf("%v %v", groups, d.Who.Groups)
	}
}
