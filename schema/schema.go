// Package schema is layer 2: see shared/doc/02-schema.md.
package schema

import "coracle/api"

// Check: is it a form?
func Check(form string) (good bool) {
	defer func() {
		if x := recover(); x != nil {
			good = refused(x) == api.OK
		}
	}()
	parse(form)
	return true
}

// Decode: the value that bytes hold.
func Decode(form, s string) (v api.Value, e api.Errno) {
	defer func() {
		if x := recover(); x != nil {
			v, e = api.Value{}, refused(x)
		}
	}()
	row := parse(form)
	if len(s) > api.MaxText {
		refuse(api.ErrLong)
	}
	return taken(row, s), api.OK
}

// Encode: the bytes of a value.
func Encode(form string, v api.Value) (s string, e api.Errno) {
	defer func() {
		if x := recover(); x != nil {
			s, e = "", refused(x)
		}
	}()
	s = laid(parse(form), v)
	if len(s) > api.MaxText {
		refuse(api.ErrLong)
	}
	return s, api.OK
}

// refusal is what is thrown where something can't be taken or laid out.
type refusal api.Errno

func refuse(e api.Errno) { panic(refusal(e)) }

// refused: the number of a refusal that was caught. Anything else that was thrown is a mistake in this package, which mustn't pass for an answer.
func refused(x any) api.Errno {
	r, ok := x.(refusal)
	if !ok {
		panic(x)
	}
	return api.Errno(r)
}
