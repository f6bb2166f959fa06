package frame

import (
	"wigwag/api"
	"wigwag/varint"
)

// field is a part of a frame that is written behind its Kind.
type field int

const (
	fieldID field = iota
	fieldOffset
	fieldMax
	fieldCode
	fieldDelay
	fieldCE
	fieldSpans
	fieldData
)

// numbers are the fields that are a number each.
var numbers = [6]field{fieldID, fieldOffset, fieldMax, fieldCode, fieldDelay, fieldCE}

// finished is what the Kind of a stream's last frame is written as.
const finished = api.FStream + 1

// fieldsOf are the fields of a Kind, in the order in which they are written; false: there is no such Kind. It takes 64 bits, as many as a Kind that is read may have: an int may have fewer.
func fieldsOf(kind uint64) ([]field, bool) {
	switch kind {
	case api.FPadding, api.FPing, api.FDone:
		return nil, true
	case api.FAck:
		return []field{fieldSpans, fieldDelay}, true
	case api.FAckCE:
		return []field{fieldSpans, fieldDelay, fieldCE}, true
	case api.FReset:
		return []field{fieldID, fieldCode, fieldMax}, true
	case api.FStop:
		return []field{fieldID, fieldCode}, true
	case api.FHello:
		return []field{fieldMax, fieldOffset, fieldID}, true
	case api.FStream:
		return []field{fieldID, fieldOffset, fieldData}, true
	case api.FMaxData, api.FMaxStreams, api.FBlocked:
		return []field{fieldMax}, true
	case api.FMaxStream, api.FStreamBlocked:
		return []field{fieldID, fieldMax}, true
	case api.FClose:
		return []field{fieldCode}, true
	}
	return nil, false
}

// numberOf is where a frame has a field that is a number.
func numberOf(f *api.Frame, which field) *uint64 {
	switch which {
	case fieldID:
		return &f.ID
	case fieldOffset:
		return &f.Offset
	case fieldMax:
		return &f.Max
	case fieldCode:
		return &f.Code
	case fieldDelay:
		return &f.Delay
	}
	return &f.CE
}

// writtenKind is what a frame's Kind is written as.
func writtenKind(f api.Frame) uint64 {
	if f.Fin {
		return finished
	}
	return uint64(f.Kind)
}

// layField lays a frame's field behind bytes.
func layField(out []byte, f api.Frame, which field) []byte {
	switch which {
	case fieldSpans:
		return lay(out, spanNumbers(f.Spans)...)
	case fieldData:
		return append(lay(out, uint64(len(f.Data))), f.Data...)
	}
	return lay(out, *numberOf(&f, which))
}

// lay lays numbers behind bytes.
func lay(out []byte, values ...uint64) []byte {
	for _, v := range values {
		b, _ := varint.Put(v) // no error: a frame that may be has no greater numbers
		out = append(out, b...)
	}
	return out
}

// spanNumbers are the numbers that Spans are written as.
func spanNumbers(l []api.Span) []uint64 {
	last := l[len(l)-1]
	out := []uint64{uint64(len(l)), last.To - 1, last.To - last.From - 1}
	for i := len(l) - 2; i >= 0; i-- {
		out = append(out, l[i+1].From-l[i].To-1, l[i].To-l[i].From-1)
	}
	return out
}
