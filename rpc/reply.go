package rpc

import (
	"coracle/api"
	"coracle/xdr"
)

const (
	accepted = 0
	denied   = 1

	deniedVersion = 0
	deniedAuth    = 1
)

// PutReply: a reply as bytes.
func PutReply(r Reply) (string, api.Errno) {
	if !isReply(r) {
		return "", api.ErrForm
	}
	var w xdr.Writer
	putUints(&w, r.Xid, kindReply)
	switch r.Verdict {
	case RPCMismatch:
		putUints(&w, denied, deniedVersion)
	case AuthError:
		putUints(&w, denied, deniedAuth)
	default:
		putUints(&w, accepted, authNone)
		w.Opaque("")
		w.Uint(r.Verdict)
	}
	if hasLow(r.Verdict) {
		w.Uint(r.Low)
	}
	if hasHigh(r.Verdict) {
		w.Uint(r.High)
	}
	return withRest(&w, r.Body)
}

func hasLow(verdict int) bool { return hasHigh(verdict) || verdict == AuthError }

func hasHigh(verdict int) bool { return verdict == ProgMismatch || verdict == RPCMismatch }

func hasBody(verdict int) bool { return verdict == Success }

// isReply: are its fields such as can be laid out? How long Body is, is looked at behind them.
func isReply(r Reply) bool {
	return Success <= r.Verdict && r.Verdict <= AuthError && areUints(r.Xid, r.Low, r.High) &&
		(hasLow(r.Verdict) || r.Low == 0) &&
		(hasHigh(r.Verdict) || r.High == 0) &&
		(hasBody(r.Verdict) || r.Body == "")
}

// GetReply: the reply of bytes.
func GetReply(s string) (Reply, api.Errno) {
	if len(s) > api.MaxText {
		return Reply{}, api.ErrLong
	}
	r := takeReply(xdr.Open(s))
	if t, e := PutReply(r); e != api.OK || t != s {
		return Reply{}, api.ErrForm
	}
	return r, api.OK
}

// takeReply: the only reply of which the bytes may be the PutReply. Whether they are is not looked at here, so parts that are the same in all replies are passed over.
func takeReply(r *xdr.Reader) Reply {
	x := Reply{Xid: r.Uint()}
	r.Uint()
	if r.Uint() == denied {
		x.Verdict = RPCMismatch
		if r.Uint() == deniedAuth {
			x.Verdict = AuthError
		}
	} else {
		r.Uint()
		r.Opaque(0)
		x.Verdict = r.Uint()
	}
	if hasLow(x.Verdict) {
		x.Low = r.Uint()
	}
	if hasHigh(x.Verdict) {
		x.High = r.Uint()
	}
	if hasBody(x.Verdict) {
		x.Body = r.Fixed(r.Left())
	}
	return x
}
