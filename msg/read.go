package msg

import (
	"interregnum/api"
	"interregnum/attr"
	"interregnum/caps"
	"interregnum/prefix"
)

// Decode answers the message whose bytes are b, or a Note of what is wrong with it first.
func Decode(b []byte) (api.Msg, api.Note) {
	size, n := Head(b)
	if n.Code != 0 {
		return api.Msg{}, n
	}
	// Of no bytes Head tells 0, and that is no message either.
	if len(b) < bodyAt || len(b) != size {
		return api.Msg{}, noteOf(codeHead, subSize)
	}
	m, body := api.Msg{Kind: int(b[kindAt])}, b[bodyAt:]
	switch m.Kind {
	case api.KindOpen:
		m.Open, n = readOpen(body)
	case api.KindUpdate:
		m.Update, n = readUpdate(body)
	case api.KindNote:
		m.Note = noteOf(int(body[0]), int(body[1]), body[dataAt:]...)
	}
	if n.Code != 0 {
		return api.Msg{}, n
	}
	return m, n
}

// readOpen answers the OPEN whose body b is, of ten bytes or more.
func readOpen(b []byte) (api.Open, api.Note) {
	if b[0] != version {
		return api.Open{}, noteOf(codeOpen, subVersion, number(version, 2)...)
	}
	params, rest, ok := cut(b[paramsAt:], paramBytes)
	if !ok || len(rest) > 0 {
		return api.Open{}, noteOf(codeOpen, subParams)
	}
	c, ok := caps.Decode(params)
	if !ok {
		return api.Open{}, noteOf(codeOpen, subParams)
	}
	as, ok := readAS(numberOf(b[asAt:holdAt]), c)
	if !ok {
		return api.Open{}, noteOf(codeOpen, subAS)
	}
	return api.Open{AS: as, Hold: numberOf(b[holdAt:idAt]), ID: uint32(numberOf(b[idAt:paramsAt])), Caps: c}, api.Note{}
}

// readAS answers the AS of whom two bytes tell short, and who has the capabilities c.
func readAS(short int, c api.Caps) (int, bool) {
	switch {
	case short == 0:
		return 0, false
	case !c.Four:
		return short, true
	case short != c.AS4 && short != noShort:
		return 0, false
	}
	return c.AS4, true
}

// readUpdate answers the UPDATE whose body b is.
func readUpdate(b []byte) (api.Update, api.Note) {
	goneBytes, rest, goneFits := cut(b, sizeBytes)
	attrBytes, nlriBytes, attrsFit := cut(rest, sizeBytes)
	if !goneFits || !attrsFit {
		return api.Update{}, noteOf(codeUpdate, subMalformed)
	}
	gone, goneOK := prefix.Decode(goneBytes)
	nlri, nlriOK := prefix.Decode(nlriBytes)
	if !goneOK || !nlriOK {
		return api.Update{}, noteOf(codeUpdate, subPrefixes)
	}
	u := api.Update{Gone: gone, Nlri: nlri}
	if len(nlri) == 0 && len(attrBytes) == 0 {
		return u, api.Note{}
	}
	a, n := attr.Decode(attrBytes)
	if n.Code != 0 {
		return api.Update{}, n
	}
	if len(nlri) > 0 {
		u.Attrs = a
	}
	return u, api.Note{}
}

// cut answers the part of b whose length stands ahead of it in countBytes, and the bytes behind it; false, if they do not fit into b.
func cut(b []byte, countBytes int) (part, rest []byte, ok bool) {
	if len(b) < countBytes {
		return nil, nil, false
	}
	end := countBytes + numberOf(b[:countBytes])
	if len(b) < end {
		return nil, nil, false
	}
	return b[countBytes:end], b[end:], true
}
