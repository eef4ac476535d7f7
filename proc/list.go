package proc

import (
	"coracle/api"
	"coracle/dir"
)

// What an entry counts beside its name; more of it, where all is told.
const (
	entrySize = 24
	plusSize  = 128
)

// listVerifier is that of all cookies: none is ever given twice.
const listVerifier = "\x00\x00\x00\x00\x00\x00\x00\x00"

func (k *call) readDir() (api.Value, api.Status) {
	cookie, most := k.args.N[0], k.args.N[len(k.args.N)-1]
	if cookie != 0 && k.text(1) != listVerifier {
		return api.Value{}, api.BadCookie
	}
	// One entry more is asked for than can fit, so that it is seen where not all do.
	entries, all, status := k.Readdir(k.Caller, k.id(0), cookie, most/entrySize+1)
	fit := k.fitting(entries, most)
	switch {
	case status != 0:
		return api.Value{}, status
	case len(entries) > 0 && fit == 0:
		return api.Value{}, api.TooSmall
	}
	return k.listed(entries[:fit], all && fit == len(entries)), 0
}

// fitting: how many of the first entries count at most so much together.
func (k *call) fitting(entries []dir.Entry, most int) int {
	for n, e := range entries {
		most -= k.sizeOf(e)
		if most < 0 {
			return n
		}
	}
	return len(entries)
}

func (k *call) sizeOf(e dir.Entry) int {
	size := entrySize + (len(e.Name)+3)&^3
	if k.proc == readDirPlus {
		size += plusSize
	}
	return size
}

func (k *call) listed(entries []dir.Entry, all bool) api.Value {
	n, texts := append(k.known(), len(entries)), []string{listVerifier}
	for _, e := range entries {
		n, texts = append(n, e.ID, e.Cookie), append(texts, e.Name)
		if k.proc == readDirPlus {
			n, texts = append(append(n, k.perhaps(e.ID)...), 1), append(texts, handleOf(e.ID))
		}
	}
	return results(0, append(n, flag(all)), texts...)
}
