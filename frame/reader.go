package frame

import (
	"slices"

	"wigwag/api"
	"wigwag/varint"
)

// rest are the bytes that were not read yet.
type rest []byte

// number reads a number.
func (r *rest) number() uint64 {
	v, n, e := varint.Get(*r)
	if e != api.OK {
		giveUp()
	}
	*r = (*r)[n:]
	return v
}

// data reads bytes, behind how many they are.
func (r *rest) data() []byte {
	n := r.number()
	if n > uint64(len(*r)) {
		giveUp()
	}
	out := append([]byte(nil), (*r)[:n]...)
	*r = (*r)[n:]
	return out
}

// reader reads the frame that bytes begin with. It gives up where they begin with none.
type reader struct {
	rest
	frame api.Frame
}

// read reads the frame, its Kind first.
func (r *reader) read() {
	kind := r.number()
	if kind == finished {
		kind, r.frame.Fin = api.FStream, true
	}
	has, known := fieldsOf(kind)
	if !known {
		giveUp()
	}
	r.frame.Kind = int(kind)
	for _, which := range has {
		r.readField(which)
	}
	if Check(r.frame) != api.OK {
		giveUp()
	}
}

// readField reads a field of the frame.
func (r *reader) readField(which field) {
	switch which {
	case fieldSpans:
		r.frame.Spans = r.spans()
	case fieldData:
		r.frame.Data = r.data()
	default:
		*numberOf(&r.frame, which) = r.number()
	}
}

// spans reads Spans, the last of which is written first.
func (r *reader) spans() []api.Span {
	var out []api.Span
	n := r.number()
	at := r.number() + 1
	for i := range n {
		if i > 0 {
			at = below(at, r.number()+1)
		}
		from := below(at, r.number()+1)
		out = append(out, api.Span{From: from, To: at})
		at = from
	}
	slices.Reverse(out)
	return out
}

// below is the number so far below another one. It gives up where there is none.
func below(v, far uint64) uint64 {
	if far > v {
		giveUp()
	}
	return v - far
}

// giveUp ends the reading of a frame, however deep it is.
func giveUp() {
	panic(api.ErrFrame)
}
