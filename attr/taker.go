package attr

// taker takes numbers from the front of a list. Where one is wanting, or can't be what it stands for, a refusal is thrown.
type taker struct {
	rest []int // not taken yet
}

// refusal is what is thrown.
type refusal struct{}

// taken: what the numbers begin with, and a copy of those behind it; nothing and false, where they are refused.
func taken[T any](n []int, take func(*taker) T) (thing T, rest []int, ok bool) {
	defer func() {
		if x := recover(); x != nil { // nothing has been answered by then: all results are zero
			onlyRefusal(x)
		}
	}()
	t := taker{rest: n}
	thing = take(&t)
	return thing, append([]int(nil), t.rest...), true
}

// onlyRefusal: anything else that was thrown is a mistake in this package, which mustn't pass for an answer.
func onlyRefusal(x any) {
	if _, ok := x.(refusal); !ok {
		panic(x)
	}
}

// attr: a literal's fields are taken in the order in which they are written.
func (t *taker) attr() Attr {
	return Attr{
		Kind: t.number(), Mode: t.number(), Links: t.number(), UID: t.number(), GID: t.number(),
		Size: t.number(), Used: t.number(),
		Major: t.number(), Minor: t.number(),
		Fsid: t.number(), ID: t.number(),
		Access: t.time(), Modify: t.time(), Change: t.time(),
	}
}

func (t *taker) set() Set {
	var s Set
	s.HasMode, s.Mode = t.perhaps()
	s.HasUID, s.UID = t.perhaps()
	s.HasGID, s.GID = t.perhaps()
	s.HasSize, s.Size = t.perhaps()
	s.HowAccess, s.Access = t.moment()
	s.HowModify, s.Modify = t.moment()
	return s
}

func (t *taker) perhaps() (bool, int) {
	if t.upTo(1) == 0 {
		return false, 0
	}
	return true, t.number()
}

func (t *taker) moment() (int, Time) {
	how := t.upTo(howGiven)
	if how != howGiven {
		return how, Time{}
	}
	return how, t.time()
}

func (t *taker) time() Time {
	return Time{S: t.number(), N: t.number()}
}

// upTo: the next number, which must be from 0 to most.
func (t *taker) upTo(most int) int {
	n := t.number()
	if n < 0 || n > most {
		panic(refusal{})
	}
	return n
}

func (t *taker) number() int {
	if len(t.rest) == 0 {
		panic(refusal{})
	}
	n := t.rest[0]
	t.rest = t.rest[1:]
	return n
}
