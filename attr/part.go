package attr

import (
	"bytes"

	"interregnum/api"
	"interregnum/path"
)

// How many bytes flags, type and length have.
const (
	shortHead = 3
	longHead  = 4
)

// part is an attribute among the bytes that are read: whole are all of its bytes, data those behind its length.
type part struct {
	flags, kind int
	data, whole []byte
}

// throw ends the reading: data go along in the Note.
func throw(sub int, data []byte) {
	panic(wrong{Code: codeUpdate, Sub: sub, Data: bytes.Clone(data)})
}

// first answers the attribute whose bytes stand first in b, which has some, and the bytes behind these.
func first(b []byte) (part, []byte) {
	head := shortHead
	if b[0]&extended != 0 {
		head = longHead
	}
	if len(b) < head {
		throw(subMalformed, nil)
	}
	size := 0
	for _, x := range b[2:head] {
		size = size<<8 | int(x)
	}
	end := head + size
	if len(b) < end {
		throw(subMalformed, nil)
	}
	return part{flags: int(b[0]), kind: int(b[1]), data: b[head:end], whole: b[:end]}, b[end:]
}

// refuseUnless throws p whole, if what must be is not.
func (p part) refuseUnless(met bool, sub int) {
	if !met {
		throw(sub, p.whole)
	}
}

// readInto puts what p tells into a.
func (p part) readInto(a *api.Attrs) {
	if p.kind < typeOrigin || p.kind > typeComms {
		p.readUnknown(a)
		return
	}
	p.refuseUnless(p.hasFlagsAsSaid(), subFlags)
	p.refuseUnless(fits(p.kind, len(p.data)), subLength)
	switch p.kind {
	case typeOrigin:
		a.Origin = int(p.data[0])
		p.refuseUnless(isOrigin(a.Origin), subOrigin)
	case typePath:
		a.Path = p.readPath()
	case typeNext:
		a.Next = numbersOf(p.data)[0]
		p.refuseUnless(isNext(a.Next), subNext)
	case typeMed:
		a.Med = int(numbersOf(p.data)[0])
	case typePref:
		a.Pref = int(numbersOf(p.data)[0])
	case typeComms:
		a.Comms = numbersOf(p.data)
		p.refuseUnless(len(a.Comms) <= api.MaxComms, subOptional)
	default:
		a.Raws = append(a.Raws, toldAs(p.kind, bytes.Clone(p.data)))
	}
}

// hasFlagsAsSaid tells if the flags of p, of types 1 to 8, are right: partial may be what others passed on without knowing it, and these pass on what is optional and transitive alone.
func (p part) hasFlagsAsSaid() bool {
	flags := said[p.kind].flags
	if flags == optional|transitive {
		return p.flags&flags == flags
	}
	return p.flags&passedOn == flags
}

// readPath answers the path that p tells.
func (p part) readPath() []api.Segment {
	told, ok := path.Decode(p.data)
	if !ok {
		throw(subPath, nil)
	}
	return told
}

// readUnknown puts p, of a type that is not known here, among the Raws of a, if it is to be passed on.
func (p part) readUnknown(a *api.Attrs) {
	p.refuseUnless(p.flags&optional != 0, subUnrecognized)
	if p.flags&transitive == 0 {
		return
	}
	p.refuseUnless(len(p.data) <= maxShort, subOptional)
	// 0 is no type of a Raw.
	if p.kind != 0 {
		a.Raws = append(a.Raws, api.Raw{Flags: passedOn, Type: p.kind, Data: bytes.Clone(p.data)})
	}
}
