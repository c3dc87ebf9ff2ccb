package msg

import (
	"bytes"
	"encoding/binary"
	"math"
	"math/rand"
	"reflect"
	"slices"
	"strconv"
	"strings"
	"testing"

	"interregnum/api"
	"interregnum/attr"
	"interregnum/caps"
	"interregnum/prefix"
)

const ff = "\xff\xff\xff\xff\xff\xff\xff\xff\xff\xff\xff\xff\xff\xff\xff\xff"

// Bytes of right parts.
const (
	alive = ff + "\x00\x13\x04"

	four   = "\x41\x04\x00\x01\x11\x70"
	params = "\x02\x06" + four

	ten  = "\x08\x0a"             // 10.0.0.0/8
	home = "\x0f\xc0\xa8"         // 192.168.0.0/15
	one  = "\x20\x01\x02\x03\x04" // 1.2.3.4/32

	origin = "\x40\x01\x01\x01"
	asPath = "\x40\x02\x06\x02\x01\x00\x00\x00\x02"
	next   = "\x40\x03\x04\x0a\x00\x00\x01"
	attrs  = origin + asPath + next
)

// two answers the two bytes of n.
func two(n int) string { return string([]byte{byte(n >> 8), byte(n)}) }

// message answers the message of that kind with that body.
func message(kind int, body string) string {
	return ff + two(19+len(body)) + string([]byte{byte(kind)}) + body
}

// openAs answers an OPEN of that version, short AS and parameters.
func openAs(version byte, short int, params string) string {
	return message(1, string([]byte{version})+two(short)+"\x00\x5a\x01\x02\x03\x04"+string([]byte{byte(len(params))})+params)
}

// update answers an UPDATE of these parts.
func update(gone, attrs, nlri string) string {
	return message(2, two(len(gone))+gone+two(len(attrs))+attrs+nlri)
}

// someOpen answers an Open whose bytes are openAs(4, 23456, params).
func someOpen() api.Open {
	return api.Open{AS: 70000, Hold: 90, ID: 0x01020304, Caps: api.Caps{Four: true, AS4: 70000}}
}

// someAttrs answers the attributes whose bytes attrs is.
func someAttrs() api.Attrs {
	return api.Attrs{Origin: 1, Path: []api.Segment{{AS: []int{2}}}, Next: 0x0a000001, Med: -1, Pref: -1}
}

// someUpdate answers an Update whose bytes are update(ten+one, attrs, home+ten).
func someUpdate() api.Update {
	return api.Update{
		Gone:  []api.Prefix{{Addr: 0x0a000000, Len: 8}, {Addr: 0x01020304, Len: 32}},
		Attrs: someAttrs(),
		Nlri:  []api.Prefix{{Addr: 0xc0a80000, Len: 15}, {Addr: 0x0a000000, Len: 8}},
	}
}

// full answers a message of that kind in which every field is set, and good.
func full(kind int) api.Msg {
	return api.Msg{Kind: kind, Open: someOpen(), Update: someUpdate(), Note: api.Note{Code: 6, Sub: 3, Data: []byte("bye")}}
}

// alone answers a message of that kind with the fields of its kind alone.
func alone(kind int) api.Msg {
	m, whole := api.Msg{Kind: kind}, full(kind)
	switch kind {
	case 1:
		m.Open = whole.Open
	case 2:
		m.Update = whole.Update
	case 3:
		m.Note = whole.Note
	}
	return m
}

// withOpen, withUpdate and withNote answer messages that are changed.
func withOpen(change func(o *api.Open)) api.Msg {
	m := alone(1)
	change(&m.Open)
	return m
}

func withUpdate(change func(u *api.Update)) api.Msg {
	m := alone(2)
	change(&m.Update)
	return m
}

func withNote(change func(n *api.Note)) api.Msg {
	m := alone(3)
	change(&m.Note)
	return m
}

// note answers a Note.
func note(code, sub int, data string) api.Note {
	return api.Note{Code: code, Sub: sub, Data: []byte(data)}
}

// isNote tells if two Notes are the same.
func isNote(n, m api.Note) bool {
	return n.Code == m.Code && n.Sub == m.Sub && bytes.Equal(n.Data, m.Data)
}

// bare answers a copy of m in which no list is nil.
func bare(m api.Msg) api.Msg {
	m.Note.Data = append([]byte{}, m.Note.Data...)
	m.Update.Gone = append([]api.Prefix{}, m.Update.Gone...)
	m.Update.Nlri = append([]api.Prefix{}, m.Update.Nlri...)
	a := &m.Update.Attrs
	segments, raws := a.Path, a.Raws
	a.Path, a.Comms, a.Raws = []api.Segment{}, append([]uint32{}, a.Comms...), []api.Raw{}
	for _, s := range segments {
		a.Path = append(a.Path, api.Segment{Set: s.Set, AS: append([]int{}, s.AS...)})
	}
	for _, r := range raws {
		a.Raws = append(a.Raws, api.Raw{Flags: r.Flags, Type: r.Type, Data: append([]byte{}, r.Data...)})
	}
	return m
}

// same tells if two messages are: nil and empty lists are.
func same(m, o api.Msg) bool { return reflect.DeepEqual(bare(m), bare(o)) }

// isRight tells if p is a right prefix, by its bits.
func isRight(p api.Prefix) bool {
	return p.Len >= 0 && p.Len <= 32 && uint64(p.Addr)%(uint64(1)<<(32-p.Len)) == 0
}

// encodeByWord tells the chapter's sentence on Encode, not by the package's own means.
func encodeByWord(m api.Msg) string {
	b := ""
	switch m.Kind {
	case 1:
		o := m.Open
		if o.AS < 1 || o.AS >= 1<<32 || o.Caps.Four && o.Caps.AS4 != o.AS || !caps.Good(o.Caps) || o.Hold < 0 || o.Hold > 65535 {
			return ""
		}
		as := o.AS
		if as >= 65536 {
			as = 23456
		}
		p := caps.Encode(o.Caps)
		b = "\x04" + two(as) + two(o.Hold) + string(binary.BigEndian.AppendUint32(nil, o.ID)) + string([]byte{byte(len(p))}) + string(p)
	case 2:
		for _, p := range slices.Concat(m.Update.Gone, m.Update.Nlri) {
			if !isRight(p) {
				return ""
			}
		}
		a, g, n := "", string(prefix.Encode(m.Update.Gone)), string(prefix.Encode(m.Update.Nlri))
		if len(m.Update.Nlri) > 0 {
			a = string(attr.Encode(m.Update.Attrs))
			if a == "" {
				return ""
			}
		}
		b = two(len(g)) + g + two(len(a)) + a + n
	case 3:
		if m.Note.Code < 0 || m.Note.Code > 255 || m.Note.Sub < 0 || m.Note.Sub > 255 {
			return ""
		}
		b = string([]byte{byte(m.Note.Code), byte(m.Note.Sub)}) + string(m.Note.Data)
	case 4:
	default:
		return ""
	}
	if len(b) > 4096-19 {
		return ""
	}
	return message(m.Kind, b)
}

// headByWord tells the chapter's sentence on Head.
func headByWord(b string) (int, api.Note) {
	if len(b) < 19 {
		return 0, api.Note{}
	}
	size, least := int(b[16])*256+int(b[17]), 0
	if !strings.HasPrefix(b, ff) {
		return 0, note(1, 1, "")
	}
	if size < 19 || size > 4096 {
		return 0, note(1, 2, b[16:18])
	}
	switch b[18] {
	case 1:
		least = 29
	case 2:
		least = 23
	case 3:
		least = 21
	case 4:
		if size > 19 {
			return 0, note(1, 2, b[16:18])
		}
	default:
		return 0, note(1, 3, b[18:19])
	}
	if size < least {
		return 0, note(1, 2, b[16:18])
	}
	return size, api.Note{}
}

// decodeByWord tells the chapter's sentences on Decode.
func decodeByWord(b string) (api.Msg, api.Note) {
	size, n := headByWord(b)
	if n.Code != 0 {
		return api.Msg{}, n
	}
	if size == 0 || size != len(b) {
		return api.Msg{}, note(1, 2, "")
	}
	m := api.Msg{Kind: int(b[18])}
	switch m.Kind {
	case 1:
		m.Open, n = openByWord(b[19:])
	case 2:
		m.Update, n = updateByWord(b[19:])
	case 3:
		m.Note = note(int(b[19]), int(b[20]), b[21:])
	}
	if n.Code != 0 {
		return api.Msg{}, n
	}
	return m, api.Note{}
}

// openByWord tells what the chapter says of an OPEN's body.
func openByWord(b string) (o api.Open, n api.Note) {
	if b[0] != 4 {
		return o, note(2, 1, "\x00\x04")
	}
	c, ok := caps.Decode([]byte(b[10:]))
	if int(b[9]) != len(b)-10 || !ok {
		return o, note(2, 0, "")
	}
	as := int(b[1])*256 + int(b[2])
	if as == 0 || c.Four && as != 23456 && as != c.AS4 {
		return o, note(2, 2, "")
	}
	if c.Four {
		as = c.AS4
	}
	return api.Open{AS: as, Hold: int(b[3])*256 + int(b[4]), ID: binary.BigEndian.Uint32([]byte(b[5:9])), Caps: c}, n
}

// updateByWord tells what the chapter says of an UPDATE's body.
func updateByWord(b string) (u api.Update, n api.Note) {
	from := 2 + int(b[0])*256 + int(b[1])
	if from+2 > len(b) {
		return u, note(3, 1, "")
	}
	to := from + 2 + int(b[from])*256 + int(b[from+1])
	if to > len(b) {
		return u, note(3, 1, "")
	}
	gone, goneOK := prefix.Decode([]byte(b[2:from]))
	nlri, nlriOK := prefix.Decode([]byte(b[to:]))
	if !goneOK || !nlriOK {
		return u, note(3, 10, "")
	}
	a, n := attr.Decode([]byte(b[from+2 : to]))
	switch {
	case to == len(b) && to == from+2: // neither attributes nor Nlri
		return api.Update{Gone: gone}, api.Note{}
	case n.Code != 0:
		return u, n
	case to == len(b):
		return api.Update{Gone: gone}, api.Note{}
	}
	return api.Update{Gone: gone, Attrs: a, Nlri: nlri}, api.Note{}
}

// mustEncode asks for the bytes of m; none, if want is "".
func mustEncode(t *testing.T, name string, m api.Msg, want string) {
	t.Helper()
	if got := Encode(m); string(got) != want {
		t.Errorf("%s: %x, want %x", name, got, want)
	}
}

// mustRead asks for the message whose bytes b is.
func mustRead(t *testing.T, name, b string, want api.Msg) {
	t.Helper()
	if m, n := Decode([]byte(b)); !isNote(n, api.Note{}) || !same(m, want) {
		t.Errorf("%s: %+v, %+v, want %+v", name, m, n, want)
	}
}

// mustRefuse asks for the Note of bytes that are no message, and for nothing beside it.
func mustRefuse(t *testing.T, name, b string, want api.Note) {
	t.Helper()
	if m, n := Decode([]byte(b)); !isNote(n, want) || !same(m, api.Msg{}) {
		t.Errorf("%s: %+v, %+v, want %+v", name, m, n, want)
	}
}

func TestEncodeAndDecode(t *testing.T) {
	for name, c := range map[string]struct {
		m    api.Msg
		want string
	}{
		"a KEEPALIVE": {api.Msg{Kind: 4}, alive},
		"an OPEN":     {alone(1), openAs(4, 23456, params)},
		"no capabilities": {withOpen(func(o *api.Open) { o.AS, o.Caps = 258, api.Caps{} }),
			ff + "\x00\x1d\x01\x04\x01\x02\x00\x5a\x01\x02\x03\x04\x00"},
		"a short AS and Four": {withOpen(func(o *api.Open) { o.AS, o.Caps.AS4 = 258, 258 }),
			openAs(4, 258, "\x02\x06\x41\x04\x00\x00\x01\x02")},
		"AS 65535": {withOpen(func(o *api.Open) { o.AS, o.Caps.AS4 = 65535, 65535 }),
			openAs(4, 65535, "\x02\x06\x41\x04\x00\x00\xff\xff")},
		"AS 65536": {withOpen(func(o *api.Open) { o.AS, o.Caps.AS4 = 65536, 65536 }),
			openAs(4, 23456, "\x02\x06\x41\x04\x00\x01\x00\x00")},
		"AS 2^32 - 1": {withOpen(func(o *api.Open) { o.AS, o.Caps.AS4 = 1<<32-1, 1<<32-1 }),
			openAs(4, 23456, "\x02\x06\x41\x04\xff\xff\xff\xff")},
		"AS 23456": {withOpen(func(o *api.Open) { o.AS, o.Caps.AS4 = 23456, 23456 }),
			openAs(4, 23456, "\x02\x06\x41\x04\x00\x00\x5b\xa0")},
		"AS 1, Hold 0, ID 0": {api.Msg{Kind: 1, Open: api.Open{AS: 1}},
			ff + "\x00\x1d\x01\x04\x00\x01\x00\x00\x00\x00\x00\x00\x00"},
		"Hold and ID, the greatest": {api.Msg{Kind: 1, Open: api.Open{AS: 65535, Hold: 65535, ID: 1<<32 - 1}},
			ff + "\x00\x1d\x01\x04\xff\xff\xff\xff\xff\xff\xff\xff\x00"},
		"Hold 1": {api.Msg{Kind: 1, Open: api.Open{AS: 1, Hold: 1}},
			ff + "\x00\x1d\x01\x04\x00\x01\x00\x01\x00\x00\x00\x00\x00"},
		"all capabilities": {withOpen(func(o *api.Open) {
			o.Caps = api.Caps{Four: true, AS4: 70000, GR: true, Restarting: true, Time: 120, Family: true, Forward: true, LL: true, LLTime: 258}
		}), openAs(4, 23456, "\x02\x17"+four+"\x40\x06\x80\x78\x00\x01\x01\x80\x47\x07\x00\x01\x01\x00\x00\x01\x02")},
		"an UPDATE":            {alone(2), update(ten+one, attrs, home+ten)},
		"nothing in an UPDATE": {api.Msg{Kind: 2}, ff + "\x00\x17\x02\x00\x00\x00\x00"},
		"Gone alone":           {api.Msg{Kind: 2, Update: api.Update{Gone: []api.Prefix{{}}}}, ff + "\x00\x18\x02\x00\x01\x00\x00\x00"},
		"Nlri alone": {withUpdate(func(u *api.Update) { u.Gone = nil }),
			update("", attrs, home+ten)},
		"Nlri 0/0": {withUpdate(func(u *api.Update) { u.Gone, u.Nlri = nil, []api.Prefix{{}} }),
			update("", attrs, "\x00")},
		"the same prefix twice": {withUpdate(func(u *api.Update) { u.Nlri = []api.Prefix{u.Gone[0], u.Gone[0]} }),
			update(ten+one, attrs, ten+ten)},
		"a NOTIFICATION":        {alone(3), message(3, "\x06\x03bye")},
		"(0, 0)":                {api.Msg{Kind: 3}, ff + "\x00\x15\x03\x00\x00"},
		"(0, 5) with Data":      {api.Msg{Kind: 3, Note: note(0, 5, "\x00")}, message(3, "\x00\x05\x00")},
		"(255, 255)":            {api.Msg{Kind: 3, Note: note(255, 255, "")}, message(3, "\xff\xff")},
		"(3, 1), another order": {api.Msg{Kind: 3, Note: note(3, 1, "\xff\x00")}, message(3, "\x03\x01\xff\x00")},
	} {
		mustEncode(t, name, c.m, c.want)
		if got := encodeByWord(c.m); got != c.want {
			t.Errorf("%s: the words say %x", name, got)
		}
		mustRead(t, name, c.want, c.m)
	}
}

// Without Four a long AS is told by 23456 alone, and so it is read.
func TestLongASWithoutFour(t *testing.T) {
	for _, as := range []int{65536, 70000, 1<<32 - 1} {
		m := withOpen(func(o *api.Open) { o.AS, o.Caps = as, api.Caps{} })
		b := openAs(4, 23456, "")
		mustEncode(t, strconv.Itoa(as), m, b)
		m.Open.AS = 23456
		mustRead(t, strconv.Itoa(as), b, m)
	}
}

func TestEncodeOfWhatIsNotGood(t *testing.T) {
	good := map[string]api.Msg{
		"an OPEN": alone(1), "an UPDATE": alone(2), "a NOTIFICATION": alone(3), "a KEEPALIVE": alone(4),
	}
	for name, m := range good {
		if len(Encode(m)) == 0 {
			t.Errorf("%s is good", name)
		}
	}
	for name, m := range map[string]api.Msg{
		"AS 0":                    withOpen(func(o *api.Open) { o.AS, o.Caps = 0, api.Caps{} }),
		"AS below 0":              withOpen(func(o *api.Open) { o.AS, o.Caps = -1, api.Caps{} }),
		"AS 2^32":                 withOpen(func(o *api.Open) { o.AS, o.Caps = 1<<32, api.Caps{} }),
		"AS 2^32 + 1":             withOpen(func(o *api.Open) { o.AS, o.Caps = 1<<32+1, api.Caps{} }),
		"the greatest AS":         withOpen(func(o *api.Open) { o.AS, o.Caps = math.MaxInt, api.Caps{} }),
		"the least AS":            withOpen(func(o *api.Open) { o.AS, o.Caps = math.MinInt, api.Caps{} }),
		"AS is not AS4":           withOpen(func(o *api.Open) { o.AS = 70001 }),
		"AS is 23456, AS4 not":    withOpen(func(o *api.Open) { o.AS = 23456 }),
		"AS is AS4's low part":    withOpen(func(o *api.Open) { o.AS = 70000 - 65536 }),
		"AS and AS4 0":            withOpen(func(o *api.Open) { o.AS, o.Caps.AS4 = 0, 0 }),
		"AS4 0":                   withOpen(func(o *api.Open) { o.Caps.AS4 = 0 }),
		"AS and AS4 2^32":         withOpen(func(o *api.Open) { o.AS, o.Caps.AS4 = 1<<32, 1<<32 }),
		"AS4 without Four":        withOpen(func(o *api.Open) { o.Caps.Four = false }),
		"Hold below 0":            withOpen(func(o *api.Open) { o.Hold = -1 }),
		"Hold 65536":              withOpen(func(o *api.Open) { o.Hold = 65536 }),
		"the greatest Hold":       withOpen(func(o *api.Open) { o.Hold = math.MaxInt }),
		"the least Hold":          withOpen(func(o *api.Open) { o.Hold = math.MinInt }),
		"a Time without GR":       withOpen(func(o *api.Open) { o.Caps.Time = 1 }),
		"a Time of 4096":          withOpen(func(o *api.Open) { o.Caps.GR, o.Caps.Time = true, 4096 }),
		"an LLTime without LL":    withOpen(func(o *api.Open) { o.Caps.LLTime = 1 }),
		"Gone of 33 bits":         withUpdate(func(u *api.Update) { u.Gone[1].Len = 33 }),
		"Gone of -1 bits":         withUpdate(func(u *api.Update) { u.Gone[0] = api.Prefix{Len: -1} }),
		"Gone of bits behind":     withUpdate(func(u *api.Update) { u.Gone[0].Addr++ }),
		"Gone alone, bits behind": withUpdate(func(u *api.Update) { u.Gone[1].Len, u.Nlri = 29, nil }),
		"Nlri of 33 bits":         withUpdate(func(u *api.Update) { u.Nlri[1].Len = 33 }),
		"Nlri of -1 bits":         withUpdate(func(u *api.Update) { u.Nlri[0] = api.Prefix{Len: -1} }),
		"Nlri of bits behind":     withUpdate(func(u *api.Update) { u.Nlri[0].Len = 12 }),
		"Nlri alone, bits behind": withUpdate(func(u *api.Update) { u.Gone, u.Nlri[1].Addr = nil, 1 }),
		"no Attrs, Nlri":          withUpdate(func(u *api.Update) { u.Attrs = api.Attrs{} }),
		"Origin 3":                withUpdate(func(u *api.Update) { u.Attrs.Origin = 3 }),
		"Next 0":                  withUpdate(func(u *api.Update) { u.Attrs.Next = 0 }),
		"a path with 0":           withUpdate(func(u *api.Update) { u.Attrs.Path[0].AS[0] = 0 }),
		"Code below 0":            withNote(func(n *api.Note) { n.Code = -1 }),
		"Code 256":                withNote(func(n *api.Note) { n.Code = 256 }),
		"the greatest Code":       withNote(func(n *api.Note) { n.Code = math.MaxInt }),
		"the least Code":          withNote(func(n *api.Note) { n.Code = math.MinInt }),
		"Sub below 0":             withNote(func(n *api.Note) { n.Sub = -1 }),
		"Sub 256":                 withNote(func(n *api.Note) { n.Sub = 256 }),
		"the greatest Sub":        withNote(func(n *api.Note) { n.Sub = math.MaxInt }),
		"the least Sub":           withNote(func(n *api.Note) { n.Sub = math.MinInt }),
	} {
		mustEncode(t, name, m, "")
		if got := encodeByWord(m); got != "" {
			t.Errorf("%s: the words say %x", name, got)
		}
	}
}

func TestEncodeOfEveryKind(t *testing.T) {
	for _, kind := range []int{math.MinInt, -256, -255, -4, -1, 0, 1, 2, 3, 4, 5, 6, 7, 127, 128, 255, 256, 257, 258, 259, 260, 1<<32 + 1, 1<<32 + 4, math.MaxInt} {
		got := Encode(full(kind))
		if (len(got) > 0) != (kind >= 1 && kind <= 4) || string(got) != encodeByWord(full(kind)) {
			t.Errorf("kind %d: %x", kind, got)
		}
	}
}

// What is not of a message's kind is not in it.
func TestEncodeOfOtherFields(t *testing.T) {
	bad := api.Msg{
		Open:   api.Open{AS: -1, Hold: -1, Caps: api.Caps{AS4: 7}},
		Update: api.Update{Gone: []api.Prefix{{Len: 33}}, Nlri: make([]api.Prefix, 5000)},
		Note:   api.Note{Code: -1, Sub: 256, Data: make([]byte, 5000)},
	}
	for kind := 1; kind <= 4; kind++ {
		m := bad
		m.Kind = kind
		switch kind {
		case 1:
			m.Open = someOpen()
		case 2:
			m.Update = someUpdate()
		case 3:
			m.Note = full(3).Note
		}
		want := string(Encode(alone(kind)))
		if want == "" {
			t.Fatalf("kind %d: nothing", kind)
		}
		mustEncode(t, "the others bad", m, want)
		mustEncode(t, "the others good", full(kind), want)
	}
}

// Attributes do not count without Nlri, good or not.
func TestEncodeWithoutNlri(t *testing.T) {
	for name, a := range map[string]api.Attrs{
		"none": {}, "good": someAttrs(), "not good": {Origin: 9, Next: 0}, "long": {Raws: []api.Raw{{Data: make([]byte, 5000)}}},
	} {
		mustEncode(t, name, api.Msg{Kind: 2, Update: api.Update{Attrs: a}}, update("", "", ""))
		mustEncode(t, name+", empty Nlri", api.Msg{Kind: 2, Update: api.Update{Attrs: a, Nlri: []api.Prefix{}}}, update("", "", ""))
		mustEncode(t, name+", Gone", withUpdate(func(u *api.Update) { u.Attrs, u.Nlri = a, nil }), update(ten+one, "", ""))
	}
}

// hosts answers the n prefixes of 32 bits from 10.0.0.0 on: five bytes each.
func hosts(n int) []api.Prefix {
	list := make([]api.Prefix, n)
	for i := range list {
		list[i] = api.Prefix{Addr: 0x0a000000 + uint32(i), Len: 32}
	}
	return list
}

// sized answers attributes of size bytes, of 274 to 3900.
func sized(size int) api.Attrs {
	a, kind := someAttrs(), 20
	for size -= len(attrs); size > 0; kind++ {
		n := min(size, 258)
		if rest := size - n; rest > 0 && rest < 3 {
			n -= 3
		}
		a.Raws = append(a.Raws, api.Raw{Flags: 0xe0, Type: kind, Data: bytes.Repeat([]byte{7}, n-3)})
		size -= n
	}
	return a
}

func TestEncodeOfTheLongest(t *testing.T) {
	zeros := func(n int) []api.Prefix { return make([]api.Prefix, n) }
	rows := map[string]func(size int) api.Msg{
		"Data": func(size int) api.Msg { return api.Msg{Kind: 3, Note: api.Note{Code: 1, Data: make([]byte, size-21)}} },
		"Gone": func(size int) api.Msg { return api.Msg{Kind: 2, Update: api.Update{Gone: zeros(size - 23)}} },
		"Gone of five each": func(size int) api.Msg {
			return api.Msg{Kind: 2, Update: api.Update{Gone: append(hosts(800), zeros(size-23-4000)...)}}
		},
		"Nlri": func(size int) api.Msg {
			return api.Msg{Kind: 2, Update: api.Update{Attrs: someAttrs(), Nlri: zeros(size - 23 - len(attrs))}}
		},
		"attributes": func(size int) api.Msg {
			return api.Msg{Kind: 2, Update: api.Update{Attrs: sized(size - 24), Nlri: zeros(1)}}
		},
		"all of them": func(size int) api.Msg {
			return api.Msg{Kind: 2, Update: api.Update{Gone: hosts(300), Attrs: sized(1000), Nlri: zeros(size - 23 - 2500)}}
		},
	}
	for name, of := range rows {
		for _, size := range []int{4090, 4095, 4096, 4097, 4098, 4200} {
			m := of(size)
			b := Encode(m)
			if string(b) != encodeByWord(m) || size <= 4096 && len(b) != size || size > 4096 && len(b) != 0 {
				t.Errorf("%s: %d bytes, want %d", name, len(b), size)
			}
			if size <= 4096 {
				mustRead(t, name, string(b), m)
			}
		}
	}
}

// A length that would go round, if it were told in two bytes, is too long.
func TestEncodeOfFarTooLong(t *testing.T) {
	for _, n := range []int{65536 - 23, 65536 - 19, 65536, 65536 + 1, 2*65536 + 10, 1 << 20} {
		mustEncode(t, "Data", api.Msg{Kind: 3, Note: api.Note{Data: make([]byte, n)}}, "")
		mustEncode(t, "Gone", api.Msg{Kind: 2, Update: api.Update{Gone: make([]api.Prefix, n)}}, "")
		mustEncode(t, "Nlri", api.Msg{Kind: 2, Update: api.Update{Attrs: someAttrs(), Nlri: make([]api.Prefix, n)}}, "")
	}
}

func TestHeadOfFewer(t *testing.T) {
	for n := range 19 {
		for _, b := range []string{alive, strings.Repeat("\x00", 19), ff + "\x00\x00\x00", ff + "\xff\xff\xff"} {
			if size, note := Head([]byte(b[:n])); size != 0 || !isNote(note, api.Note{}) {
				t.Errorf("%x: %d, %+v", b[:n], size, note)
			}
			mustRefuse(t, "fewer than nineteen", b[:n], note(1, 2, ""))
		}
	}
	if size, n := Head(nil); size != 0 || !isNote(n, api.Note{}) {
		t.Errorf("nil: %d, %+v", size, n)
	}
	if m, n := Decode(nil); !isNote(n, note(1, 2, "")) || !same(m, api.Msg{}) {
		t.Errorf("nil: %+v, %+v", m, n)
	}
}

func TestHeadOfTheMarker(t *testing.T) {
	for at := range 16 {
		for _, x := range []byte{0, 1, 0x7f, 0xfe} {
			for _, tail := range []string{"\x00\x13\x04", "\x00\x00\x00", "\xff\xff\xff", "\x00\x13\x09"} {
				b := []byte(ff + tail)
				b[at] = x
				if size, n := Head(b); size != 0 || !isNote(n, note(1, 1, "")) {
					t.Errorf("%x: %d, %+v", b, size, n)
				}
				mustRefuse(t, "the marker", string(b), note(1, 1, ""))
				mustRefuse(t, "the marker, a byte more", string(b)+"x", note(1, 1, ""))
			}
		}
	}
	mustRefuse(t, "nineteen bytes 0", strings.Repeat("\x00", 19), note(1, 1, ""))
}

// Every size of the kinds that there are, and of those beside them; of the others the sizes at the edges.
func TestHeadOfSizesAndKinds(t *testing.T) {
	for kind := range 256 {
		for size := range 65536 {
			if kind > 6 && (size > 40 && size < 4090 || size > 4100 && size < 65530) {
				continue
			}
			b := []byte(ff + two(size) + string([]byte{byte(kind)}))
			want, wantNote := headByWord(string(b))
			got, n := Head(b)
			if got != want || !isNote(n, wantNote) || (n.Code == 0) != (got >= 19) {
				t.Fatalf("kind %d, size %d: %d, %+v, want %d, %+v", kind, size, got, n, want, wantNote)
			}
		}
	}
}

func TestHeadByHand(t *testing.T) {
	for _, c := range []struct {
		size, kind int
		want       int
		note       api.Note
	}{
		{0, 4, 0, note(1, 2, "\x00\x00")},
		{18, 4, 0, note(1, 2, "\x00\x12")},
		{18, 9, 0, note(1, 2, "\x00\x12")},
		{19, 4, 19, api.Note{}},
		{20, 4, 0, note(1, 2, "\x00\x14")},
		{4096, 4, 0, note(1, 2, "\x10\x00")},
		{28, 1, 0, note(1, 2, "\x00\x1c")},
		{29, 1, 29, api.Note{}},
		{4096, 1, 4096, api.Note{}},
		{22, 2, 0, note(1, 2, "\x00\x16")},
		{23, 2, 23, api.Note{}},
		{4096, 2, 4096, api.Note{}},
		{4097, 2, 0, note(1, 2, "\x10\x01")},
		{4097, 0, 0, note(1, 2, "\x10\x01")},
		{20, 3, 0, note(1, 2, "\x00\x14")},
		{21, 3, 21, api.Note{}},
		{4096, 3, 4096, api.Note{}},
		{65535, 3, 0, note(1, 2, "\xff\xff")},
		{19, 0, 0, note(1, 3, "\x00")},
		{4096, 5, 0, note(1, 3, "\x05")},
		{23, 255, 0, note(1, 3, "\xff")},
	} {
		head := ff + two(c.size) + string([]byte{byte(c.kind)})
		for _, behind := range []string{"", "x", strings.Repeat("\x00", 5000)} {
			if got, n := Head([]byte(head + behind)); got != c.want || !isNote(n, c.note) {
				t.Errorf("size %d, kind %d: %d, %+v", c.size, c.kind, got, n)
			}
		}
		if c.note.Code != 0 {
			mustRefuse(t, "Head's", head, c.note)
			mustRefuse(t, "Head's, and another length", head+"xyz", c.note)
		}
	}
}

// A message that is cut off, or has more behind it, is not a whole one: no Data tell of it.
func TestDecodeOfOtherLengths(t *testing.T) {
	for kind := 1; kind <= 4; kind++ {
		whole := string(Encode(alone(kind)))
		for n := range len(whole) {
			mustRefuse(t, "cut off", whole[:n], note(1, 2, ""))
		}
		for _, behind := range []string{"\x00", "\xff", alive, whole, strings.Repeat("x", 5000)} {
			mustRefuse(t, "more behind", whole+behind, note(1, 2, ""))
		}
		mustRead(t, "whole", whole, alone(kind))
	}
	// What is wrong inside comes behind it.
	mustRefuse(t, "another version, cut off", openAs(3, 1, "")[:28], note(1, 2, ""))
	mustRefuse(t, "no prefixes, more behind", update("\x08", "", "")+"\x00", note(1, 2, ""))
}

func TestDecodeOfOpen(t *testing.T) {
	as4 := func(b string) string { return "\x02\x06\x41\x04" + b }
	of := func(as int, c api.Caps) api.Msg {
		return api.Msg{Kind: 1, Open: api.Open{AS: as, Hold: 90, ID: 0x01020304, Caps: c}}
	}
	isFour := func(as int) api.Msg { return of(as, api.Caps{Four: true, AS4: as}) }
	for name, c := range map[string]struct {
		b    string
		want api.Msg
	}{
		"no parameters":               {openAs(4, 258, ""), of(258, api.Caps{})},
		"AS 1":                        {openAs(4, 1, ""), of(1, api.Caps{})},
		"AS 65535":                    {openAs(4, 65535, ""), of(65535, api.Caps{})},
		"AS 23456 without Four":       {openAs(4, 23456, ""), of(23456, api.Caps{})},
		"AS 258, AS4 258":             {openAs(4, 258, as4("\x00\x00\x01\x02")), isFour(258)},
		"AS 23456, AS4 258":           {openAs(4, 23456, as4("\x00\x00\x01\x02")), isFour(258)},
		"AS 23456, AS4 70000":         {openAs(4, 23456, params), isFour(70000)},
		"AS 23456, AS4 23456":         {openAs(4, 23456, as4("\x00\x00\x5b\xa0")), isFour(23456)},
		"AS 23456, AS4 1":             {openAs(4, 23456, as4("\x00\x00\x00\x01")), isFour(1)},
		"AS 65535, AS4 65535":         {openAs(4, 65535, as4("\x00\x00\xff\xff")), isFour(65535)},
		"AS 23456, AS4 2^32 - 1":      {openAs(4, 23456, as4("\xff\xff\xff\xff")), isFour(1<<32 - 1)},
		"AS4 twice, the last counts":  {openAs(4, 258, as4("\x00\x00\x00\x09")+as4("\x00\x00\x01\x02")), isFour(258)},
		"GR without Four":             {openAs(4, 5, "\x02\x04\x40\x02\x80\x78"), of(5, api.Caps{GR: true, Restarting: true, Time: 120})},
		"a capability that no one is": {openAs(4, 5, "\x02\x02\x02\x00"), of(5, api.Caps{})},
		"a parameter of nothing":      {openAs(4, 5, "\x02\x00"), of(5, api.Caps{})},
		"255 bytes of parameters":     {openAs(4, 5, "\x02\xfd\xee\xfb"+strings.Repeat("x", 251)), of(5, api.Caps{})},
	} {
		mustRead(t, name, c.b, c.want)
	}
	for _, hold := range []int{0, 1, 2, 3, 256, 65535} {
		m := alone(1)
		m.Open.Hold, m.Open.ID = hold, 0
		b := message(1, "\x04\x5b\xa0"+two(hold)+"\x00\x00\x00\x00\x08"+params)
		mustRead(t, "Hold "+strconv.Itoa(hold), b, m)
	}
}

func TestDecodeRefusesAnOpen(t *testing.T) {
	as4 := func(b string) string { return "\x02\x06\x41\x04" + b }
	fixed := "\x04\x01\x02\x00\x5a\x01\x02\x03\x04"
	for name, c := range map[string]struct {
		b    string
		want api.Note
	}{
		"parameters lack":              {message(1, fixed+"\x01"), note(2, 0, "")},
		"a byte of parameters lacks":   {message(1, fixed+"\x09"+params), note(2, 0, "")},
		"a byte more than parameters":  {message(1, fixed+"\x07"+params), note(2, 0, "")},
		"a byte behind none":           {message(1, fixed+"\x00\x00"), note(2, 0, "")},
		"a parameter behind them":      {message(1, fixed+"\x08"+params+"\x02\x00"), note(2, 0, "")},
		"256 more than a byte tells":   {message(1, fixed+"\x00"+strings.Repeat("\x02\x00", 128)), note(2, 0, "")},
		"a parameter of type 1":        {openAs(4, 258, "\x01\x00"), note(2, 0, "")},
		"half a parameter":             {openAs(4, 258, "\x02"), note(2, 0, "")},
		"a capability cut off":         {openAs(4, 258, "\x02\x01\x41"), note(2, 0, "")},
		"AS4 0":                        {openAs(4, 23456, as4("\x00\x00\x00\x00")), note(2, 0, "")},
		"GR of a byte":                 {openAs(4, 258, "\x02\x03\x40\x01\x00"), note(2, 0, "")},
		"AS 0":                         {openAs(4, 0, ""), note(2, 2, "")},
		"AS 0 with Four":               {openAs(4, 0, as4("\x00\x00\x00\x05")), note(2, 2, "")},
		"AS 0, the low part of AS4":    {openAs(4, 0, as4("\x00\x01\x00\x00")), note(2, 2, "")},
		"AS 257, AS4 258":              {openAs(4, 257, as4("\x00\x00\x01\x02")), note(2, 2, "")},
		"AS is AS4's low part":         {openAs(4, 70000-65536, params), note(2, 2, "")},
		"AS is AS4's high part":        {openAs(4, 1, params), note(2, 2, "")},
		"AS 23455":                     {openAs(4, 23455, params), note(2, 2, "")},
		"AS 23457":                     {openAs(4, 23457, params), note(2, 2, "")},
		"AS is AS4's that does not":    {openAs(4, 9, as4("\x00\x00\x00\x09")+as4("\x00\x00\x01\x02")), note(2, 2, "")},
		"AS 0, parameters wrong":       {openAs(4, 0, "\x01\x00"), note(2, 0, "")},
		"AS 0, parameters do not fit":  {message(1, "\x04\x00\x00\x00\x5a\x01\x02\x03\x04\x01"), note(2, 0, "")},
		"a version, parameters wrong":  {openAs(5, 258, "\x01\x00"), note(2, 1, "\x00\x04")},
		"a version, they do not fit":   {message(1, "\x03"+fixed[1:]+"\x01"), note(2, 1, "\x00\x04")},
		"a version, AS 0":              {openAs(3, 0, ""), note(2, 1, "\x00\x04")},
		"a version, AS is not AS4":     {openAs(0, 1, params), note(2, 1, "\x00\x04")},
		"a version, all else is right": {openAs(255, 23456, params), note(2, 1, "\x00\x04")},
	} {
		mustRefuse(t, name, c.b, c.want)
		if _, n := decodeByWord(c.b); !isNote(n, c.want) {
			t.Errorf("%s: the words say %+v", name, n)
		}
	}
	for version := range 256 {
		b := openAs(byte(version), 23456, params)
		if version == 4 {
			mustRead(t, "version 4", b, alone(1))
		} else {
			mustRefuse(t, "version "+strconv.Itoa(version), b, note(2, 1, "\x00\x04"))
		}
	}
}

func TestDecodeOfUpdate(t *testing.T) {
	of := func(u api.Update) api.Msg { return api.Msg{Kind: 2, Update: u} }
	whole := someUpdate()
	more := someAttrs()
	more.Comms, more.Raws = []uint32{api.NoLLGR}, []api.Raw{{Flags: 0x40, Type: 6}, {Flags: 0xe0, Type: 20, Data: []byte("x")}}
	moreBytes := attrs + "\x40\x06\x00\xc0\x08\x04\xff\xff\x00\x07\xe0\x14\x01x"
	for name, c := range map[string]struct {
		b    string
		want api.Update
	}{
		"all":                               {update(ten+one, attrs, home+ten), whole},
		"nothing":                           {update("", "", ""), api.Update{}},
		"Gone alone":                        {update(ten+one, "", ""), api.Update{Gone: whole.Gone}},
		"attributes alone do not count":     {update("", attrs, ""), api.Update{}},
		"nor do they with Gone":             {update(ten+one, moreBytes, ""), api.Update{Gone: whole.Gone}},
		"Nlri alone":                        {update("", attrs, home+ten), api.Update{Attrs: someAttrs(), Nlri: whole.Nlri}},
		"all attributes":                    {update("", moreBytes, ten), api.Update{Attrs: more, Nlri: whole.Nlri[1:]}},
		"bits behind Len do not count":      {update("\x04\xff", attrs, "\x09\x0a\xff"), api.Update{Gone: []api.Prefix{{Addr: 0xf0000000, Len: 4}}, Attrs: someAttrs(), Nlri: []api.Prefix{{Addr: 0x0a800000, Len: 9}}}},
		"Nlri 0/0":                          {update("", attrs, "\x00"), api.Update{Attrs: someAttrs(), Nlri: []api.Prefix{{}}}},
		"Gone is Nlri":                      {update(ten, attrs, ten), api.Update{Gone: whole.Nlri[1:], Attrs: someAttrs(), Nlri: whole.Nlri[1:]}},
		"a type that is left out":           {update("", attrs+"\x80\x14\x01x", ten), api.Update{Attrs: someAttrs(), Nlri: whole.Nlri[1:]}},
		"attributes of a length of 256":     {update("", attrs+"\xc0\x14\xe9"+strings.Repeat("x", 233), ten), withRaw(233)},
		"256 bytes of Gone":                 {update(strings.Repeat("\x00", 256), "", ""), api.Update{Gone: make([]api.Prefix, 256)}},
		"another order of the attributes":   {update("", next+asPath+origin, ten), api.Update{Attrs: someAttrs(), Nlri: whole.Nlri[1:]}},
		"prefixes as they came, once twice": {update(one+ten+one, "", ""), api.Update{Gone: []api.Prefix{whole.Gone[1], whole.Gone[0], whole.Gone[1]}}},
	} {
		mustRead(t, name, c.b, of(c.want))
		if m, n := decodeByWord(c.b); n.Code != 0 || !same(m, of(c.want)) {
			t.Errorf("%s: the words say %+v, %+v", name, m, n)
		}
	}
}

// withRaw answers an Update of 10.0.0.0/8 with a Raw of so many x.
func withRaw(n int) api.Update {
	a := someAttrs()
	a.Raws = []api.Raw{{Flags: 0xe0, Type: 20, Data: bytes.Repeat([]byte("x"), n)}}
	return api.Update{Attrs: a, Nlri: []api.Prefix{{Addr: 0x0a000000, Len: 8}}}
}

func TestDecodeRefusesAnUpdate(t *testing.T) {
	bad := "\x40\x01\x01\x05"
	for name, c := range map[string]struct {
		b    string
		want api.Note
	}{
		"Gone's length is above all":        {message(2, "\x00\x01\x00\x00"), note(3, 1, "")},
		"Gone leaves a byte":                {message(2, "\x00\x02\x08\x0a\x00"), note(3, 1, "")},
		"Gone leaves none":                  {message(2, "\x00\x02\x08\x0a"), note(3, 1, "")},
		"Gone's length is the greatest":     {message(2, "\xff\xff\x00\x00"), note(3, 1, "")},
		"attributes lack":                   {message(2, "\x00\x00\x00\x01"), note(3, 1, "")},
		"a byte of attributes lacks":        {message(2, "\x00\x00"+two(len(attrs)+1)+attrs), note(3, 1, "")},
		"attributes' length, the greatest":  {message(2, "\x00\x02\x08\x0a\xff\xff"+attrs), note(3, 1, "")},
		"lengths, then Gone":                {message(2, "\x00\x01\x21\x00\x01"), note(3, 1, "")},
		"Gone of 33 bits":                   {update("\x21\x01\x02\x03\x04\x05", attrs, ten), note(3, 10, "")},
		"Gone of 255 bits":                  {update("\xff"+strings.Repeat("\x00", 32), "", ""), note(3, 10, "")},
		"a byte of Gone lacks":              {update("\x10\x0a", "", ""), note(3, 10, "")},
		"a byte of Gone lacks, not behind":  {update(one+"\x08", attrs, ten), note(3, 10, "")},
		"Nlri of 33 bits":                   {update("", attrs, "\x21\x01\x02\x03\x04\x05"), note(3, 10, "")},
		"a byte of Nlri lacks":              {update(ten, attrs, ten+"\x09\x0a"), note(3, 10, "")},
		"Nlri and Gone":                     {update("\x08", attrs, "\x08"), note(3, 10, "")},
		"Nlri, then attributes":             {update("", bad, "\x08"), note(3, 10, "")},
		"Gone, then attributes":             {update("\x21", bad, ten), note(3, 10, "")},
		"Gone, then attributes, no Nlri":    {update("\x21", bad, ""), note(3, 10, "")},
		"no attributes, Nlri":               {update("", "", ten), note(3, 3, "\x01")},
		"no attributes, Gone and Nlri":      {update(one, "", ten), note(3, 3, "\x01")},
		"no AS_PATH, Nlri":                  {update("", origin+next, ten), note(3, 3, "\x02")},
		"no NEXT_HOP, no Nlri":              {update("", origin+asPath, ""), note(3, 3, "\x03")},
		"no NEXT_HOP, Gone":                 {update(ten, origin+asPath, ""), note(3, 3, "\x03")},
		"ORIGIN 5":                          {update("", bad+asPath+next, ten), note(3, 6, bad)},
		"ORIGIN 5, no Nlri":                 {update("", bad, ""), note(3, 6, bad)},
		"ORIGIN 5, Gone":                    {update(ten, bad, ""), note(3, 6, bad)},
		"an attribute cut off":              {update("", attrs+"\x40", ten), note(3, 1, "")},
		"an attribute cut off, no Nlri":     {update("", attrs+"\x40", ""), note(3, 1, "")},
		"an attribute that ends in Nlri":    {update("", attrs[:len(attrs)-1], "\x01"+ten), note(3, 10, "")},
		"an attribute twice":                {update("", attrs+origin, ten), note(3, 1, "")},
		"wrong flags":                       {update("", "\xc0\x01\x01\x00"+asPath+next, ten), note(3, 4, "\xc0\x01\x01\x00")},
		"wrong length":                      {update("", "\x40\x01\x02\x00\x00"+asPath+next, ten), note(3, 5, "\x40\x01\x02\x00\x00")},
		"unrecognized":                      {update("", attrs+"\x40\x14\x00", ten), note(3, 2, "\x40\x14\x00")},
		"NEXT_HOP 0":                        {update("", origin+asPath+"\x40\x03\x04\x00\x00\x00\x00", ten), note(3, 8, "\x40\x03\x04\x00\x00\x00\x00")},
		"AS_PATH of kind 3":                 {update("", origin+"\x40\x02\x06\x03\x01\x00\x00\x00\x02"+next, ten), note(3, 11, "")},
		"a Raw of 256 bytes":                {update("", attrs+"\xd0\x14\x01\x00"+strings.Repeat("x", 256), ten), note(3, 9, "\xd0\x14\x01\x00"+strings.Repeat("x", 256))},
		"optional, not transitive, no Nlri": {update("", "\x80\x14\x00", ""), note(3, 3, "\x01")},
	} {
		mustRefuse(t, name, c.b, c.want)
		if _, n := decodeByWord(c.b); !isNote(n, c.want) {
			t.Errorf("%s: the words say %+v", name, n)
		}
	}
}

// Every pair of lengths of an UPDATE whose bytes are all 0 behind them.
func TestDecodeOfEveryLengthOfUpdate(t *testing.T) {
	for body := 4; body < 14; body++ {
		for gone := range 14 {
			for attr := range 14 {
				b := []byte(message(2, strings.Repeat("\x00", body)))
				b[20] = byte(gone)
				if at := 21 + gone; at+2 <= len(b) {
					b[at+1] = byte(attr)
				}
				want, wantNote := decodeByWord(string(b))
				if m, n := Decode(b); !isNote(n, wantNote) || !same(m, want) {
					t.Errorf("%x: %+v, %+v, want %+v, %+v", b, m, n, want, wantNote)
				}
			}
		}
	}
}

func TestDecodeOfNotification(t *testing.T) {
	for code := range 256 {
		for _, sub := range []int{0, 1, code, 255} {
			for _, data := range []string{"", "\x00", "\xff\x01", strings.Repeat("d", 4096-21)} {
				m := api.Msg{Kind: 3, Note: note(code, sub, data)}
				b := message(3, string([]byte{byte(code), byte(sub)})+data)
				mustRead(t, "a NOTIFICATION", b, m)
				mustEncode(t, "a NOTIFICATION", m, b)
			}
		}
	}
}

// someMessage answers a message that is often good.
func someMessage(source *rand.Rand) api.Msg {
	prefixes := func() []api.Prefix {
		list := make([]api.Prefix, source.Intn(4))
		for i := range list {
			list[i], _ = prefix.Make(source.Uint32(), source.Intn(33))
			if source.Intn(20) == 0 {
				list[i].Len = source.Intn(40) - 3
			}
		}
		return list
	}
	m := api.Msg{Kind: 1 + source.Intn(4)}
	as := []int{0, 1, 258, 23456, 65535, 65536, 70000, 1<<32 - 1, 1 << 32}[source.Intn(9)]
	m.Open = api.Open{AS: as, Hold: source.Intn(65540) - 2, ID: source.Uint32()}
	if source.Intn(3) > 0 {
		m.Open.Caps = api.Caps{Four: true, AS4: as, GR: true, Time: source.Intn(4100), Family: source.Intn(2) == 0}
	}
	m.Update = api.Update{Gone: prefixes(), Attrs: someAttrs(), Nlri: prefixes()}
	m.Update.Attrs.Origin = source.Intn(4)
	m.Update.Attrs.Med = source.Intn(5) - 1
	m.Note = api.Note{Code: source.Intn(260) - 2, Sub: source.Intn(260) - 2, Data: make([]byte, source.Intn(9))}
	source.Read(m.Note.Data)
	return m
}

// someByte answers a place among size bytes of a message, mostly one in its body.
func someByte(source *rand.Rand, size int) int {
	if size > 19 && source.Intn(4) > 0 {
		return 19 + source.Intn(size-19)
	}
	return source.Intn(size)
}

func TestAllAsTheWordsSay(t *testing.T) {
	source := rand.New(rand.NewSource(9))
	good, read := 0, 0
	for range 60000 {
		m := someMessage(source)
		b := Encode(m)
		if string(b) != encodeByWord(m) {
			t.Fatalf("%+v: %x, want %x", m, b, encodeByWord(m))
		}
		if len(b) == 0 {
			continue
		}
		good++
		for range source.Intn(3) {
			b[someByte(source, len(b))] = byte(source.Intn(256))
		}
		if source.Intn(8) == 0 {
			b = b[:source.Intn(len(b)+1)]
		}
		want, wantNote := decodeByWord(string(b))
		got, n := Decode(b)
		if !isNote(n, wantNote) || !same(got, want) {
			t.Fatalf("%x: %+v, %+v, want %+v, %+v", b, got, n, want, wantNote)
		}
		if n.Code == 0 {
			read++
			if again, n := Decode(Encode(got)); n.Code != 0 || !same(again, got) {
				t.Fatalf("%x: %+v, then %+v, %+v", b, got, again, n)
			}
		}
	}
	if good < 20000 || read < 10000 || read > good-5000 {
		t.Errorf("%d were good, %d read", good, read)
	}
}

// Any bytes behind a right head are answered.
func TestDecodeOfAnyBytes(t *testing.T) {
	source := rand.New(rand.NewSource(19))
	for range 50000 {
		body := make([]byte, source.Intn(40))
		source.Read(body)
		for i := range body {
			if source.Intn(2) == 0 {
				body[i] = byte(source.Intn(5))
			}
		}
		b := []byte(message(source.Intn(6), string(body)))
		want, wantNote := decodeByWord(string(b))
		if got, n := Decode(b); !isNote(n, wantNote) || !same(got, want) {
			t.Fatalf("%x: %+v, %+v, want %+v, %+v", b, got, n, want, wantNote)
		}
	}
}

// spoil writes over all of b, spare room included.
func spoil(b []byte) {
	for i := range b[:cap(b)] {
		b[:cap(b)][i] ^= 0x55
	}
}

// Rule R4: Encode leaves what is handed in, spare room included, and its answers share nothing.
func TestEncodeSharesNothing(t *testing.T) {
	for kind := 1; kind <= 4; kind++ {
		m := alone(kind)
		m.Note.Data = append(make([]byte, 0, 50), m.Note.Data...)
		m.Update.Gone = append(make([]api.Prefix, 0, 9), m.Update.Gone...)
		m.Update.Nlri = append(make([]api.Prefix, 0, 9), m.Update.Nlri...)
		b, again := Encode(m), Encode(m)
		want := string(again)
		spoil(b)
		if string(again) != want || !same(m, alone(kind)) || string(Encode(m)) != want {
			t.Errorf("kind %d: %x, %+v", kind, again, m)
		}
		room := m.Note.Data[:cap(m.Note.Data)]
		if strings.Trim(string(room[len(m.Note.Data):]), "\x00") != "" {
			t.Errorf("kind %d: %x", kind, room)
		}
		for _, list := range [][]api.Prefix{m.Update.Gone, m.Update.Nlri} {
			for _, p := range list[len(list):cap(list)] {
				if p != (api.Prefix{}) {
					t.Errorf("kind %d: %+v", kind, p)
				}
			}
		}
	}
}

// Rule R4: what Decode answers stays, whatever becomes of the bytes, and these stay, too.
func TestDecodeSharesNothing(t *testing.T) {
	raw := alone(2)
	raw.Update = withRaw(5)
	for _, m := range []api.Msg{alone(1), alone(2), alone(3), alone(4), raw} {
		whole := Encode(m)
		room := append(bytes.Clone(whole), "behind it"...)
		before := bytes.Clone(room)
		got, n := Decode(room[:len(whole)])
		other, _ := Decode(room[:len(whole)])
		if n.Code != 0 || !bytes.Equal(room, before) {
			t.Errorf("%+v: %x", n, room)
		}
		spoil(room)
		spoil(other.Note.Data)
		for _, r := range other.Update.Attrs.Raws {
			spoil(r.Data)
		}
		for _, list := range [][]api.Prefix{other.Update.Gone, other.Update.Nlri} {
			clear(list[:cap(list)])
		}
		if !same(got, m) {
			t.Errorf("%+v, want %+v", got, m)
		}
	}
}

// Rule R4: a Note's Data are no part of the bytes, nor of another Note.
func TestNotesShareNothing(t *testing.T) {
	for _, text := range []string{
		ff + "\x00\x12\x04", ff + "\x00\x13\x05", ff + "\x00\x14\x04",
		openAs(3, 1, ""), update("", "\x40\x01\x01\x05", ""), update("", "", ten),
	} {
		b := []byte(text)
		_, n := Decode(b)
		_, other := Decode(b)
		_, want := decodeByWord(text)
		_, head := Head(b)
		_, otherHead := Head(b)
		_, wantHead := headByWord(text)
		if string(b) != text {
			t.Errorf("%x: %x", text, b)
		}
		spoil(b)
		spoil(other.Data)
		spoil(otherHead.Data)
		if !isNote(n, want) || !isNote(head, wantHead) {
			t.Errorf("%x: %+v, %+v, want %+v, %+v", text, n, head, want, wantHead)
		}
		if _, again := Decode([]byte(text)); !isNote(again, want) {
			t.Errorf("%x again: %+v, want %+v", text, again, want)
		}
	}
}

// Rule R5: what one call read does not count in the next.
func TestNothingIsKept(t *testing.T) {
	for range 3 {
		for kind := 1; kind <= 4; kind++ {
			mustRead(t, "a message", string(Encode(alone(kind))), alone(kind))
			mustRefuse(t, "a byte lacks", string(Encode(alone(kind))[:18]), note(1, 2, ""))
			mustEncode(t, "not good", api.Msg{Kind: 5}, "")
		}
	}
}
