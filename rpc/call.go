package rpc

import (
	"coracle/api"
	"coracle/xdr"
)

const (
	version       = 2 // of the calls themselves
	maxCredential = 400
	maxMachine    = 255
)

// Why a call's credential or verifier is refused, by RFC 5531's numbers.
const (
	badCredential = 1
	badVerifier   = 3
	tooWeak       = 5
)

// PutCall: a call as bytes.
func PutCall(c Call) (string, api.Errno) {
	if !isCall(c) {
		return "", api.ErrForm
	}
	var w xdr.Writer
	putUints(&w, c.Xid, kindCall, version, c.Prog, c.Vers, c.Proc)
	if c.Unix {
		w.Uint(authSys)
		w.Opaque(unixBytes(c))
	} else {
		w.Uint(authNone)
		w.Opaque("")
	}
	w.Uint(authNone)
	w.Opaque("")
	return withRest(&w, c.Args)
}

// isCall: are its fields such as can be laid out? Args are looked at behind them.
func isCall(c Call) bool {
	if !areUints(c.Xid, c.Prog, c.Vers, c.Proc) {
		return false
	}
	if !c.Unix {
		return c.Stamp == 0 && c.Machine == "" && c.Who.UID == 0 && c.Who.GID == 0 && len(c.Who.Groups) == 0
	}
	return areUints(c.Stamp, c.Who.UID, c.Who.GID) && len(c.Machine) <= maxMachine &&
		len(c.Who.Groups) <= api.MaxGroups && areUints(c.Who.Groups...)
}

// unixBytes: what stands in an AUTH_SYS credential.
func unixBytes(c Call) string {
	var w xdr.Writer
	w.Uint(c.Stamp)
	w.Opaque(c.Machine)
	putUints(&w, c.Who.UID, c.Who.GID, len(c.Who.Groups))
	putUints(&w, c.Who.Groups...)
	return w.Bytes()
}

// refusal is what is thrown where a call is refused: the reply that says so.
type refusal Reply

// GetCall: the call of bytes, or the reply that refuses them.
func GetCall(s string) (c Call, reply string, e api.Errno) {
	if len(s) > api.MaxText {
		return Call{}, "", api.ErrLong
	}
	r := xdr.Open(s)
	xid, kind := r.Uint(), r.Uint()
	if !wentWell(r) {
		return Call{}, "", api.ErrShort
	}
	if kind != kindCall {
		return Call{}, "", api.ErrForm
	}
	refuse := func(verdict, low, high int) {
		panic(refusal{Xid: xid, Verdict: verdict, Low: low, High: high})
	}
	defer func() {
		if x := recover(); x != nil {
			c, reply, e = Call{}, refused(x), api.ErrBad
		}
	}()
	c = takeCall(r, refuse)
	c.Xid = xid
	return c, "", api.OK
}

// refused: the bytes of a refusal that was caught. Anything else that was thrown is a mistake in this package, which mustn't pass for an answer.
func refused(x any) string {
	r, ok := x.(refusal)
	if !ok {
		panic(x)
	}
	s, _ := PutReply(Reply(r))
	return s
}

// takeCall: what stands behind the Xid and the kind. A reader answers 0 behind its end, so that a version that isn't there isn't 2.
func takeCall(r *xdr.Reader, refuse func(verdict, low, high int)) Call {
	if r.Uint() != version {
		refuse(RPCMismatch, version, version)
	}
	c := Call{Prog: r.Uint(), Vers: r.Uint(), Proc: r.Uint()}
	if !wentWell(r) {
		refuse(GarbageArgs, 0, 0)
	}
	flavor, body := r.Uint(), r.Opaque(maxCredential)
	switch {
	case !wentWell(r):
		refuse(AuthError, badCredential, 0)
	case flavor > authSys:
		refuse(AuthError, tooWeak, 0)
	case flavor == authSys && !c.takeUnix(body), flavor == authNone && body != "":
		refuse(AuthError, badCredential, 0)
	}
	flavor, _ = r.Uint(), r.Opaque(0)
	if !wentWell(r) || flavor != authNone || r.Left()%unit != 0 {
		refuse(AuthError, badVerifier, 0)
	}
	c.Args = r.Fixed(r.Left())
	return c
}

// takeUnix: who calls, by an AUTH_SYS credential. Is it just one?
func (c *Call) takeUnix(body string) bool {
	r := xdr.Open(body)
	c.Unix = true
	c.Stamp, c.Machine = r.Uint(), r.Opaque(maxMachine)
	c.Who.UID, c.Who.GID = r.Uint(), r.Uint()
	groups := r.Uint()
	if groups > api.MaxGroups {
		return false
	}
	for range groups {
		c.Who.Groups = append(c.Who.Groups, r.Uint())
	}
	return r.End() == api.OK
}
