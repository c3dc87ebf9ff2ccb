package attr

import (
	"bytes"
	"encoding/binary"
	"math"
	"math/rand"
	"reflect"
	"slices"
	"strconv"
	"strings"
	"testing"

	"interregnum/api"
	"interregnum/path"
)

// Bytes of right attributes.
const (
	origin = "\x40\x01\x01\x01"
	asPath = "\x40\x02\x06\x02\x01\x00\x00\x00\x02"
	next   = "\x40\x03\x04\x0a\x00\x00\x01"
	head   = origin + asPath + next
	med    = "\x80\x04\x04\x00\x00\x00\x05"
	pref   = "\x40\x05\x04\x00\x00\x01\x00"
	atomic = "\x40\x06\x00"
	aggreg = "\xc0\x07\x08ABCDEFGH"
	comms  = "\xc0\x08\x08\x00\x00\x00\x09\xff\xff\x00\x06"
	other  = "\xe0\x14\x01x"
	last   = "\xe0\xff\x00"
	all    = head + med + pref + atomic + aggreg + comms + other + last
)

func sequence(as ...int) api.Segment { return api.Segment{AS: as} }

// least answers the good attributes whose bytes head is.
func least() api.Attrs {
	return api.Attrs{Origin: 1, Path: []api.Segment{sequence(2)}, Next: 0x0a000001, Med: -1, Pref: -1}
}

// full answers the good attributes whose bytes all is.
func full() api.Attrs {
	a := least()
	a.Med, a.Pref = 5, 256
	a.Comms = []uint32{9, api.LLGRStale}
	a.Raws = []api.Raw{{Flags: 0x40, Type: 6}, {Flags: 0xc0, Type: 7, Data: []byte("ABCDEFGH")}, {Flags: 0xe0, Type: 20, Data: []byte("x")}, {Flags: 0xe0, Type: 255}}
	return a
}

// with answers the least attributes, changed.
func with(change func(a *api.Attrs)) api.Attrs {
	a := least()
	change(&a)
	return a
}

// withRaws answers the least attributes with these Raws.
func withRaws(raws ...api.Raw) api.Attrs {
	return with(func(a *api.Attrs) { a.Raws = raws })
}

// raw answers an attribute that is passed on.
func raw(flags, kind, size int) api.Raw {
	return api.Raw{Flags: flags, Type: kind, Data: bytes.Repeat([]byte{0xaa}, size)}
}

// goodByWord tells the chapter's word of good attributes, not by the package's own means.
func goodByWord(a api.Attrs) bool {
	if a.Origin != 0 && a.Origin != 1 && a.Origin != 2 || !path.Good(a.Path) {
		return false
	}
	if a.Next == 0 || a.Next >= 0xe0000000 || a.Next >= 0x7f000000 && a.Next <= 0x7fffffff {
		return false
	}
	for _, n := range []int{a.Med, a.Pref} {
		if n != -1 && int(uint32(n)) != n {
			return false
		}
	}
	for i, r := range a.Raws {
		if i > 0 && a.Raws[i-1].Type >= r.Type {
			return false
		}
		isSix := r.Type == 6 && r.Flags == 0x40 && len(r.Data) == 0
		isSeven := r.Type == 7 && r.Flags == 0xc0 && len(r.Data) == 8
		isOther := r.Type >= 9 && r.Type <= 255 && r.Flags == 0xe0 && len(r.Data) < 256
		if !isSix && !isSeven && !isOther {
			return false
		}
	}
	return len(a.Comms) <= 32
}

// attribute answers the bytes of an attribute as the chapter tells them.
func attribute(flags, kind int, data []byte) []byte {
	b := []byte{byte(flags), byte(kind), byte(len(data))}
	if len(data) > 255 {
		b = []byte{byte(flags | 0x10), byte(kind), byte(len(data) / 256), byte(len(data) % 256)}
	}
	return append(b, data...)
}

// encodeByWord tells the chapter's sentence on Encode.
func encodeByWord(a api.Attrs) []byte {
	if !goodByWord(a) {
		return nil
	}
	four := func(n int) []byte { return binary.BigEndian.AppendUint32(nil, uint32(n)) }
	b := attribute(0x40, 1, []byte{byte(a.Origin)})
	b = append(b, attribute(0x40, 2, path.Encode(a.Path))...)
	b = append(b, attribute(0x40, 3, four(int(a.Next)))...)
	if a.Med >= 0 {
		b = append(b, attribute(0x80, 4, four(a.Med))...)
	}
	if a.Pref >= 0 {
		b = append(b, attribute(0x40, 5, four(a.Pref))...)
	}
	for _, r := range a.Raws {
		if r.Type == 6 || r.Type == 7 {
			b = append(b, attribute(r.Flags, r.Type, r.Data)...)
		}
	}
	if len(a.Comms) > 0 {
		var data []byte
		for _, c := range a.Comms {
			data = binary.BigEndian.AppendUint32(data, c)
		}
		b = append(b, attribute(0xc0, 8, data)...)
	}
	for _, r := range a.Raws {
		if r.Type > 8 {
			b = append(b, attribute(r.Flags, r.Type, r.Data)...)
		}
	}
	return b
}

// note answers a Note of what is wrong with an UPDATE.
func note(sub int, data string) api.Note { return api.Note{Code: 3, Sub: sub, Data: []byte(data)} }

// decodeByWord tells the chapter's sentences on Decode, one behind the other.
func decodeByWord(b []byte) (api.Attrs, api.Note) {
	a := api.Attrs{Med: -1, Pref: -1}
	seen := ""
	for len(b) > 0 {
		if len(b) < 3 || b[0]&0x10 != 0 && len(b) < 4 {
			return api.Attrs{}, note(1, "")
		}
		from, size := 3, int(b[2])
		if b[0]&0x10 != 0 {
			from, size = 4, int(binary.BigEndian.Uint16(b[2:]))
		}
		if len(b) < from+size || strings.IndexByte(seen, b[1]) >= 0 {
			return api.Attrs{}, note(1, "")
		}
		seen += string([]byte{b[1]})
		if n := oneByWord(&a, b[0], b[1], b[from:from+size], string(b[:from+size])); n.Code != 0 {
			return api.Attrs{}, n
		}
		b = b[from+size:]
	}
	for _, kind := range "\x01\x02\x03" {
		if !strings.ContainsRune(seen, kind) {
			return api.Attrs{}, note(3, string(kind))
		}
	}
	slices.SortFunc(a.Raws, func(r, s api.Raw) int { return r.Type - s.Type })
	return a, api.Note{}
}

// oneByWord tells the chapter's sentence on one attribute, and puts it into a.
func oneByWord(a *api.Attrs, flags, kind byte, data []byte, whole string) api.Note {
	if kind == 0 || kind > 8 {
		switch {
		case flags < 0x80:
			return note(2, whole)
		case flags&0x40 == 0:
		case len(data) > 255:
			return note(9, whole)
		case kind > 0:
			a.Raws = append(a.Raws, api.Raw{Flags: 0xe0, Type: int(kind), Data: data})
		}
		return api.Note{}
	}
	want := []byte{0, 0x40, 0x40, 0x40, 0x80, 0x40, 0x40, 0xc0, 0xc0}[kind]
	if flags&0xc0 != want || flags&0x20 != 0 && kind < 7 {
		return note(4, whole)
	}
	size := []int{0, 1, len(data), 4, 4, 4, 0, 8, len(data) &^ 3}[kind]
	if len(data) != size || kind == 8 && size == 0 {
		return note(5, whole)
	}
	switch kind {
	case 1:
		a.Origin = int(data[0])
		if data[0] > 2 {
			return note(6, whole)
		}
	case 2:
		p, ok := path.Decode(data)
		a.Path = p
		if !ok {
			return note(11, "")
		}
	case 3:
		a.Next = binary.BigEndian.Uint32(data)
		if a.Next == 0 || data[0] == 127 || data[0] >= 224 {
			return note(8, whole)
		}
	case 4:
		a.Med = int(binary.BigEndian.Uint32(data))
	case 5:
		a.Pref = int(binary.BigEndian.Uint32(data))
	case 8:
		if len(data) > 128 {
			return note(9, whole)
		}
		for i := 0; i < len(data); i += 4 {
			a.Comms = append(a.Comms, binary.BigEndian.Uint32(data[i:]))
		}
	default:
		a.Raws = append(a.Raws, api.Raw{Flags: int(want), Type: int(kind), Data: data})
	}
	return api.Note{}
}

// isNote tells if two Notes are the same.
func isNote(n, m api.Note) bool {
	return n.Code == m.Code && n.Sub == m.Sub && bytes.Equal(n.Data, m.Data)
}

// same tells if two attributes are, not by the package's own means.
func same(a, b api.Attrs) bool {
	return reflect.DeepEqual(bare(a), bare(b))
}

// bare answers a copy of a in which no list is nil.
func bare(a api.Attrs) api.Attrs {
	b := a
	b.Path, b.Comms, b.Raws = []api.Segment{}, append([]uint32{}, a.Comms...), []api.Raw{}
	for _, s := range a.Path {
		b.Path = append(b.Path, api.Segment{Set: s.Set, AS: append([]int{}, s.AS...)})
	}
	for _, r := range a.Raws {
		b.Raws = append(b.Raws, api.Raw{Flags: r.Flags, Type: r.Type, Data: append([]byte{}, r.Data...)})
	}
	return b
}

// isZero tells if there is nothing in a.
func isZero(a api.Attrs) bool { return same(a, api.Attrs{}) }

// mustRefuse asks for the Note of bytes that are no attributes, and for nothing beside it.
func mustRefuse(t *testing.T, name, b string, want api.Note) {
	t.Helper()
	if a, n := Decode([]byte(b)); !isNote(n, want) || !isZero(a) {
		t.Errorf("%s: %+v, %+v, want %+v", name, a, n, want)
	}
}

// mustRead asks for the attributes whose bytes b is.
func mustRead(t *testing.T, name, b string, want api.Attrs) {
	t.Helper()
	if a, n := Decode([]byte(b)); !isNote(n, api.Note{}) || !same(a, want) || !Good(a) {
		t.Errorf("%s: %+v, %+v, want %+v", name, a, n, want)
	}
}

// told are attributes, and if they are good.
type told struct {
	a    api.Attrs
	good bool
}

// someAttrs answers attributes at the edges of the word good, by name.
func someAttrs() map[string]told {
	number := func(n int) []int { return slices.Repeat([]int{1}, n) }
	list := map[string]told{
		"nothing":          {api.Attrs{}, false},
		"the least":        {least(), true},
		"the full":         {full(), true},
		"no path":          {with(func(a *api.Attrs) { a.Path = nil }), true},
		"a long path":      {with(func(a *api.Attrs) { a.Path = []api.Segment{sequence(number(64)...)} }), true},
		"the longest path": {with(func(a *api.Attrs) { a.Path = slices.Repeat([]api.Segment{sequence(7)}, 64) }), true},
		"a path of 65":     {with(func(a *api.Attrs) { a.Path = []api.Segment{sequence(number(65)...)} }), false},
		"a path with 0":    {with(func(a *api.Attrs) { a.Path = []api.Segment{sequence(0)} }), false},
		"an empty segment": {with(func(a *api.Attrs) { a.Path = []api.Segment{{}} }), false},
		"32 Comms":         {with(func(a *api.Attrs) { a.Comms = make([]uint32, 32) }), true},
		"33 Comms":         {with(func(a *api.Attrs) { a.Comms = make([]uint32, 33) }), false},
		"one Comm":         {with(func(a *api.Attrs) { a.Comms = []uint32{0xffffffff} }), true},
		"Comms twice":      {with(func(a *api.Attrs) { a.Comms = []uint32{9, 1, 9} }), true},
	}
	for n, good := range map[int]bool{0: true, 1: true, 2: true, 3: false, -1: false, 256: false, 257: false, math.MaxInt: false, math.MinInt: false, 1 << 32: false} {
		list["Origin "+strconv.Itoa(n)] = told{with(func(a *api.Attrs) { a.Origin = n }), good}
	}
	for n, good := range map[int]bool{-1: true, 0: true, 1: true, 1<<31 - 1: true, 1 << 31: true, 1<<32 - 1: true, 1 << 32: false, 1<<32 + 5: false, -2: false, math.MaxInt: false, math.MinInt: false} {
		list["Med "+strconv.Itoa(n)] = told{with(func(a *api.Attrs) { a.Med = n }), good}
		list["Pref "+strconv.Itoa(n)] = told{with(func(a *api.Attrs) { a.Pref = n }), good}
	}
	for n, good := range someNexts() {
		list["Next "+strconv.Itoa(int(n))] = told{with(func(a *api.Attrs) { a.Next = n }), good}
	}
	return list
}

// someNexts answers addresses at the edges, and if they may be a Next.
func someNexts() map[uint32]bool {
	return map[uint32]bool{
		0: false, 1: true, 127: true, 224: true, 0x00ffffff: true, 0x01000000: true,
		0x7effffff: true, 0x7f000000: false, 0x7f000001: false, 0x7fffffff: false, 0x80000000: true,
		0xdfffffff: true, 0xe0000000: false, 0xe0000001: false, 0xff000000: false, 0xffffffff: false,
	}
}

// someRaws answers lists of Raws at the edges, by name.
func someRaws() map[string]told {
	atomic, aggregator := raw(0x40, 6, 0), raw(0xc0, 7, 8)
	return map[string]told{
		"6":                 {withRaws(atomic), true},
		"7":                 {withRaws(aggregator), true},
		"6 and 7":           {withRaws(atomic, aggregator), true},
		"6, 7, 9 and 255":   {withRaws(atomic, aggregator, raw(0xe0, 9, 0), raw(0xe0, 255, 255)), true},
		"9":                 {withRaws(raw(0xe0, 9, 1)), true},
		"255 bytes":         {withRaws(raw(0xe0, 16, 255)), true},
		"256 bytes":         {withRaws(raw(0xe0, 16, 256)), false},
		"7 and 6":           {withRaws(aggregator, atomic), false},
		"6 twice":           {withRaws(atomic, atomic), false},
		"9 twice":           {withRaws(raw(0xe0, 9, 1), raw(0xe0, 9, 2)), false},
		"10 and 9":          {withRaws(raw(0xe0, 10, 1), raw(0xe0, 9, 1)), false},
		"9, 11 and 10":      {withRaws(raw(0xe0, 9, 1), raw(0xe0, 11, 1), raw(0xe0, 10, 1)), false},
		"9 and 6":           {withRaws(raw(0xe0, 9, 1), atomic), false},
		"9, then a bad one": {withRaws(raw(0xe0, 9, 1), raw(0xc0, 10, 1)), false},
		"a bad one, then 9": {withRaws(raw(0x60, 6, 0), raw(0xe0, 9, 1)), false},
		"6 with a byte":     {withRaws(raw(0x40, 6, 1)), false},
		"7 with 7 bytes":    {withRaws(raw(0xc0, 7, 7)), false},
		"7 with 9 bytes":    {withRaws(raw(0xc0, 7, 9)), false},
		"7 with 16 bytes":   {withRaws(raw(0xc0, 7, 16)), false},
		"7 with none":       {withRaws(raw(0xc0, 7, 0)), false},
	}
}

// rawsByTypeAndFlags hands on a Raw of every type, and of some that are none, with every flags that may be.
func rawsByTypeAndFlags(yield func(r api.Raw, good bool) bool) {
	for _, kind := range append(upTo(300), 0, -1, -6, -250, 6+256, 20+512, math.MinInt, math.MaxInt) {
		for _, flags := range []int{0, 0x10, 0x20, 0x40, 0x50, 0x60, 0x80, 0xc0, 0xd0, 0xe0, 0xe1, 0xf0, 0xff, 0x100, 0x140, 0x1c0, 0x1e0, -0x20, -1, math.MinInt} {
			size := 0
			if kind == 7 {
				size = 8
			}
			good := kind == 6 && flags == 0x40 || kind == 7 && flags == 0xc0 || kind > 8 && kind < 256 && flags == 0xe0
			if !yield(raw(flags, kind, size), good) {
				return
			}
		}
	}
}

// upTo answers the numbers from 1 to n.
func upTo(n int) []int {
	list := make([]int, n)
	for i := range list {
		list[i] = i + 1
	}
	return list
}

func TestGood(t *testing.T) {
	for _, list := range []map[string]told{someAttrs(), someRaws()} {
		for name, c := range list {
			if got := Good(c.a); got != c.good || got != goodByWord(c.a) {
				t.Errorf("%s: %v, %+v", name, got, c.a)
			}
		}
	}
	for r, good := range rawsByTypeAndFlags {
		if a := withRaws(r); Good(a) != good || good != goodByWord(a) {
			t.Errorf("%+v: want %v", r, good)
		}
	}
}

func TestEncode(t *testing.T) {
	for _, c := range []struct {
		name string
		a    api.Attrs
		want string
	}{
		{"the least", least(), head},
		{"all", full(), all},
		{"not good", api.Attrs{}, ""},
		{"no path", with(func(a *api.Attrs) { a.Path = nil }), origin + "\x40\x02\x00" + next},
		{"Origin 0", with(func(a *api.Attrs) { a.Origin = 0 }), "\x40\x01\x01\x00" + asPath + next},
		{"Origin 2", with(func(a *api.Attrs) { a.Origin = 2 }), "\x40\x01\x01\x02" + asPath + next},
		{"Next", with(func(a *api.Attrs) { a.Next = 0x01020304 }), origin + asPath + "\x40\x03\x04\x01\x02\x03\x04"},
		{"Med 0", with(func(a *api.Attrs) { a.Med = 0 }), head + "\x80\x04\x04\x00\x00\x00\x00"},
		{"Med, the greatest", with(func(a *api.Attrs) { a.Med = 1<<32 - 1 }), head + "\x80\x04\x04\xff\xff\xff\xff"},
		{"Pref 0", with(func(a *api.Attrs) { a.Pref = 0 }), head + "\x40\x05\x04\x00\x00\x00\x00"},
		{"Pref, the greatest", with(func(a *api.Attrs) { a.Pref = 1<<32 - 1 }), head + "\x40\x05\x04\xff\xff\xff\xff"},
		{"Comms in their order", with(func(a *api.Attrs) { a.Comms = []uint32{0x01020304, 1, 0} }), head + "\xc0\x08\x0c\x01\x02\x03\x04\x00\x00\x00\x01\x00\x00\x00\x00"},
		{"8 stands between 7 and 9", with(func(a *api.Attrs) {
			a.Comms, a.Raws = []uint32{1}, []api.Raw{raw(0xc0, 7, 8), raw(0xe0, 9, 0)}
		}), head + "\xc0\x07\x08" + strings.Repeat("\xaa", 8) + "\xc0\x08\x04\x00\x00\x00\x01" + "\xe0\x09\x00"},
		{"255 bytes have a short length", withRaws(raw(0xe0, 16, 255)), head + "\xe0\x10\xff" + strings.Repeat("\xaa", 255)},
		{"258 bytes have a long one", with(func(a *api.Attrs) { a.Path = []api.Segment{sequence(slices.Repeat([]int{1}, 64)...)} }), origin + "\x50\x02\x01\x02\x02\x40" + strings.Repeat("\x00\x00\x00\x01", 64) + next},
		{"384 bytes, too", with(func(a *api.Attrs) { a.Path = slices.Repeat([]api.Segment{sequence(7)}, 64) }), origin + "\x50\x02\x01\x80" + strings.Repeat("\x02\x01\x00\x00\x00\x07", 64) + next},
	} {
		if got := Encode(c.a); string(got) != c.want {
			t.Errorf("%s: %x, want %x", c.name, got, c.want)
		}
	}
}

func TestEncodeAsTheWordSays(t *testing.T) {
	check := func(name string, a api.Attrs) {
		got := Encode(a)
		if !bytes.Equal(got, encodeByWord(a)) || (len(got) > 0) != goodByWord(a) {
			t.Errorf("%s: %x, of %+v", name, got, a)
		}
		if len(got) > 0 {
			mustRead(t, name, string(got), a)
		}
	}
	for _, list := range []map[string]told{someAttrs(), someRaws()} {
		for name, c := range list {
			check(name, c.a)
		}
	}
	for r := range rawsByTypeAndFlags {
		check("a Raw", withRaws(r))
	}
}

func TestSame(t *testing.T) {
	if !Same(api.Attrs{}, api.Attrs{}) || !Same(full(), full()) {
		t.Error("the same are the same")
	}
	nils := api.Attrs{Path: []api.Segment{{AS: nil}}, Raws: []api.Raw{{Data: nil}}}
	empties := api.Attrs{Path: []api.Segment{{AS: []int{}}}, Comms: []uint32{}, Raws: []api.Raw{{Data: []byte{}}}}
	if !Same(nils, empties) || !Same(empties, nils) {
		t.Error("nil and empty lists within")
	}
	lists := api.Attrs{Path: []api.Segment{}, Comms: []uint32{}, Raws: []api.Raw{}}
	if !Same(api.Attrs{}, lists) || !Same(lists, api.Attrs{}) {
		t.Error("nil and empty lists")
	}
	for name, change := range map[string]func(a *api.Attrs){
		"Origin":             func(a *api.Attrs) { a.Origin++ },
		"Next":               func(a *api.Attrs) { a.Next++ },
		"Med":                func(a *api.Attrs) { a.Med = -1 },
		"Med by 2^32":        func(a *api.Attrs) { a.Med += 1 << 32 },
		"Pref":               func(a *api.Attrs) { a.Pref++ },
		"no path":            func(a *api.Attrs) { a.Path = nil },
		"a number":           func(a *api.Attrs) { a.Path[0].AS[0] = 3 },
		"a number more":      func(a *api.Attrs) { a.Path[0].AS = append(a.Path[0].AS, 1) },
		"a Set":              func(a *api.Attrs) { a.Path[0].Set = true },
		"a segment more":     func(a *api.Attrs) { a.Path = append(a.Path, api.Segment{}) },
		"no Comms":           func(a *api.Attrs) { a.Comms = nil },
		"a Comm less":        func(a *api.Attrs) { a.Comms = a.Comms[:1] },
		"another Comm":       func(a *api.Attrs) { a.Comms[1]++ },
		"Comms turned round": func(a *api.Attrs) { slices.Reverse(a.Comms) },
		"no Raws":            func(a *api.Attrs) { a.Raws = nil },
		"a Raw less":         func(a *api.Attrs) { a.Raws = a.Raws[1:] },
		"a Raw's Flags":      func(a *api.Attrs) { a.Raws[2].Flags = 0xc0 },
		"a Raw's Type":       func(a *api.Attrs) { a.Raws[2].Type++ },
		"a Raw's Data":       func(a *api.Attrs) { a.Raws[2].Data = []byte("y") },
		"no Data":            func(a *api.Attrs) { a.Raws[2].Data = nil },
		"Raws turned round":  func(a *api.Attrs) { slices.Reverse(a.Raws) },
	} {
		a := full()
		change(&a)
		if Same(a, full()) || Same(full(), a) || !Same(a, a) {
			t.Errorf("%s", name)
		}
	}
}

func TestDecode(t *testing.T) {
	mustRead(t, "the least", head, least())
	mustRead(t, "all", all, full())
	mustRead(t, "in another order", last+comms+other+aggreg+atomic+pref+next+med+asPath+origin, full())
	mustRead(t, "no path", origin+"\x40\x02\x00"+next, with(func(a *api.Attrs) { a.Path = nil }))
	mustRead(t, "long lengths", "\x50\x01\x00\x01\x01"+"\x50\x02\x00\x06\x02\x01\x00\x00\x00\x02"+"\x50\x03\x00\x04\x0a\x00\x00\x01"+"\x90\x04\x00\x04\x00\x00\x00\x05"+"\x50\x05\x00\x04\x00\x00\x01\x00"+"\x50\x06\x00\x00"+"\xd0\x07\x00\x08ABCDEFGH"+"\xd0\x08\x00\x08\x00\x00\x00\x09\xff\xff\x00\x06"+"\xd0\x14\x00\x01x"+"\xf0\xff\x00\x00", full())
	mustRead(t, "Med and Pref, the greatest", head+"\x80\x04\x04\xff\xff\xff\xff"+"\x40\x05\x04\xff\xff\xff\xff", with(func(a *api.Attrs) { a.Med, a.Pref = 1<<32-1, 1<<32-1 }))
	mustRead(t, "Med and Pref 0", head+"\x80\x04\x04\x00\x00\x00\x00"+"\x40\x05\x04\x00\x00\x00\x00", with(func(a *api.Attrs) { a.Med, a.Pref = 0, 0 }))
	mustRead(t, "32 Comms", head+"\xc0\x08\x80"+strings.Repeat("\x00\x00\x00\x01", 32), with(func(a *api.Attrs) { a.Comms = slices.Repeat([]uint32{1}, 32) }))
	mustRead(t, "255 bytes", head+"\xc0\x09\xff"+strings.Repeat("\xaa", 255), withRaws(raw(0xe0, 9, 255)))
	mustRead(t, "left out", head+"\x80\x09\x01x"+"\xa0\x0a\x00"+"\x80\x00\x01x", least())
	mustRead(t, "left out, as long as may be", head+"\x90\x09\xff\xff"+strings.Repeat("x", 65535), least())
	mustRead(t, "left out, 256 bytes", head+"\xb0\xff\x01\x00"+strings.Repeat("x", 256), least())
	mustRead(t, "type 0 is left out", head+"\xc0\x00\x02xy", least())
	mustRead(t, "type 0 of 255 bytes is left out", head+"\xe0\x00\xff"+strings.Repeat("x", 255), least())
	for n, good := range someNexts() {
		b := string(binary.BigEndian.AppendUint32([]byte("\x40\x03\x04"), n))
		if good {
			mustRead(t, "Next", origin+asPath+b, with(func(a *api.Attrs) { a.Next = n }))
		} else {
			mustRefuse(t, "Next", origin+asPath+b, note(8, b))
		}
	}
}

func TestDecodeRefuses(t *testing.T) {
	ones := func(n int) string { return strings.Repeat("\x00\x00\x00\x01", n) }
	for _, c := range []struct {
		name, b string
		want    api.Note
	}{
		{"the chapter's example", "\x40\x01\x01\x05", note(6, "\x40\x01\x01\x05")},
		{"no attributes", "", note(3, "\x01")},
		{"all three lack", med, note(3, "\x01")},
		{"1 lacks", asPath + next, note(3, "\x01")},
		{"1 and 3 lack", asPath, note(3, "\x01")},
		{"2 lacks", next + origin, note(3, "\x02")},
		{"2 and 3 lack", origin, note(3, "\x02")},
		{"3 lacks", asPath + origin + comms, note(3, "\x03")},
		{"a head's half", head + "\x80", note(1, "")},
		{"flags and type alone", head + "\x80\x04", note(1, "")},
		{"half of a long length", head + "\x90\x04\x00", note(1, "")},
		{"a byte lacks", head + "\x80\x04\x04\x00\x00\x00", note(1, "")},
		{"a byte lacks behind a long length", head + "\x90\x04\x00\x04\x00\x00\x00", note(1, "")},
		{"the high byte of a length counts", head + "\x90\x04\x01\x04\x00\x00\x00\x00", note(1, "")},
		{"wrong flags, and a byte lacks", head + "\x00\x04\x04\x00\x00\x00", note(1, "")},
		{"a type twice", head + origin, note(1, "")},
		{"a type twice, the second wrong", head + "\xff\x01\x00", note(1, "")},
		{"an unknown one twice", head + other + other, note(1, "")},
		{"one left out twice", head + "\x80\x14\x00" + "\x80\x14\x00", note(1, "")},
		{"one left out, then not", head + "\x80\x14\x00" + "\xc0\x14\x00", note(1, "")},
		{"type 0 twice", head + "\xc0\x00\x00" + "\x80\x00\x00", note(1, "")},
		{"6 twice", head + atomic + atomic, note(1, "")},
		{"8 twice", comms + comms, note(1, "")},
		{"twice goes ahead of what lacks", origin + origin, note(1, "")},
		{"wrong flags go ahead of a wrong length", "\xc0\x01\x02\x05\x05", note(4, "\xc0\x01\x02\x05\x05")},
		{"a wrong length goes ahead of the value", "\x40\x01\x02\x05\x05", note(5, "\x40\x01\x02\x05\x05")},
		{"what is first is told: flags", "\xc0\x01\x01\x01" + "\x40", note(4, "\xc0\x01\x01\x01")},
		{"what is first is told: a value", "\x40\x01\x01\x05" + "\x40\x01\x01\x05", note(6, "\x40\x01\x01\x05")},
		{"what is first is told: a path", "\x40\x02\x01\x02" + "\x40\x01\x01\x05", note(11, "")},
		{"Origin without a byte", "\x40\x01\x00", note(5, "\x40\x01\x00")},
		{"Origin 3", "\x40\x01\x01\x03" + asPath + next, note(6, "\x40\x01\x01\x03")},
		{"Origin 255", "\x50\x01\x00\x01\xff", note(6, "\x50\x01\x00\x01\xff")},
		{"wrong flags of a path", origin + "\x80\x02\x00" + next, note(4, "\x80\x02\x00")},
		{"a path's half", origin + "\x40\x02\x05\x02\x01\x00\x00\x00" + next, note(11, "")},
		{"a path with 0", origin + "\x40\x02\x06\x02\x01\x00\x00\x00\x00", note(11, "")},
		{"a path of 65", origin + "\x50\x02\x01\x06\x02\x41" + ones(65), note(11, "")},
		{"Next of three bytes", "\x40\x03\x03\x0a\x00\x00", note(5, "\x40\x03\x03\x0a\x00\x00")},
		{"Next of five bytes", "\x40\x03\x05\x0a\x00\x00\x01\x00", note(5, "\x40\x03\x05\x0a\x00\x00\x01\x00")},
		{"Next of eight bytes", "\x40\x03\x08" + ones(2), note(5, "\x40\x03\x08"+ones(2))},
		{"Med of three bytes", head + "\x80\x04\x03\x00\x00\x00", note(5, "\x80\x04\x03\x00\x00\x00")},
		{"Med of eight bytes", head + "\x80\x04\x08" + ones(2), note(5, "\x80\x04\x08"+ones(2))},
		{"Pref of none", head + "\x40\x05\x00", note(5, "\x40\x05\x00")},
		{"Pref of five bytes", head + "\x40\x05\x05\x00\x00\x00\x00\x00", note(5, "\x40\x05\x05\x00\x00\x00\x00\x00")},
		{"6 with a byte", head + "\x40\x06\x01\x00", note(5, "\x40\x06\x01\x00")},
		{"7 with six bytes", head + "\xc0\x07\x06ABCDEF", note(5, "\xc0\x07\x06ABCDEF")},
		{"7 with none", head + "\xe0\x07\x00", note(5, "\xe0\x07\x00")},
		{"7 with sixteen bytes", head + "\xc0\x07\x10" + ones(4), note(5, "\xc0\x07\x10"+ones(4))},
		{"8 with none", head + "\xc0\x08\x00", note(5, "\xc0\x08\x00")},
		{"8 with six bytes", head + "\xc0\x08\x06\x00\x00\x00\x01\x00\x00", note(5, "\xc0\x08\x06\x00\x00\x00\x01\x00\x00")},
		{"33 Comms", head + "\xc0\x08\x84" + ones(33), note(9, "\xc0\x08\x84"+ones(33))},
		{"64 Comms", head + "\xd0\x08\x01\x00" + ones(64), note(9, "\xd0\x08\x01\x00"+ones(64))},
		{"33 Comms and a byte", head + "\xc0\x08\x85" + ones(33) + "\x00", note(5, "\xc0\x08\x85"+ones(33)+"\x00")},
		{"an unknown one that must be known", head + "\x40\x14\x01x", note(2, "\x40\x14\x01x")},
		{"unknown, with no flags", head + "\x00\x09\x00", note(2, "\x00\x09\x00")},
		{"unknown, with other flags", head + "\x6f\xff\x00", note(2, "\x6f\xff\x00")},
		{"unknown, long", head + "\x70\x09\x01\x00" + strings.Repeat("x", 256), note(2, "\x70\x09\x01\x00"+strings.Repeat("x", 256))},
		{"type 0 that must be known", head + "\x40\x00\x00", note(2, "\x40\x00\x00")},
		{"256 bytes", head + "\xd0\x09\x01\x00" + strings.Repeat("x", 256), note(9, "\xd0\x09\x01\x00"+strings.Repeat("x", 256))},
		{"type 0 of 256 bytes", head + "\xf0\x00\x01\x00" + strings.Repeat("x", 256), note(9, "\xf0\x00\x01\x00"+strings.Repeat("x", 256))},
		{"65535 bytes", head + "\xf0\xff\xff\xff" + strings.Repeat("x", 65535), note(9, "\xf0\xff\xff\xff"+strings.Repeat("x", 65535))},
		{"the whole attribute alone", med + "\x40\x01\x01\x05" + asPath, note(6, "\x40\x01\x01\x05")},
	} {
		mustRefuse(t, c.name, c.b, c.want)
	}
}

// Every flags of every type: those that count are held against what is said, the others are not.
func TestDecodeByFlags(t *testing.T) {
	right := []string{"", origin, asPath, next, med, pref, atomic, aggreg, comms}
	for flags := range 256 {
		for kind := range 256 {
			one := []byte{byte(flags), byte(kind), 0}
			if kind >= 1 && kind <= 8 {
				one = []byte(right[kind])
				one[0] = byte(flags)
			}
			if flags&0x10 != 0 {
				one = slices.Insert(one, 2, 0)
			}
			b := bytes.Clone(one)
			for k := 1; k <= 3; k++ {
				if k != kind {
					b = append(b, right[k]...)
				}
			}
			want, wantNote := decodeByWord(b)
			if flags&0xc0 == 0 && (!isNote(wantNote, note(4, string(one))) && !isNote(wantNote, note(2, string(one)))) {
				t.Fatalf("flags %x of type %d are not right: %+v", flags, kind, wantNote)
			}
			if got, n := Decode(b); !isNote(n, wantNote) || !same(got, want) {
				t.Errorf("flags %x of type %d: %+v, %+v, want %+v, %+v", flags, kind, got, n, want, wantNote)
			}
		}
	}
	for _, flags := range []string{"\xc0", "\xe0", "\xc7", "\xef"} {
		mustRead(t, "7 and 8 may be partial", head+atomic+flags+aggreg[1:]+flags+comms[1:], with(func(a *api.Attrs) {
			a.Comms, a.Raws = []uint32{9, api.LLGRStale}, full().Raws[:2]
		}))
	}
	for _, one := range []string{origin, asPath, next, med, pref, atomic} {
		part := string([]byte{one[0] | 0x20}) + one[1:]
		mustRefuse(t, "1 to 6 may not be partial", part, note(4, part))
	}
}

// A beginning of the bytes of attributes is malformed, or a whole attribute's end.
func TestDecodeOfBeginnings(t *testing.T) {
	ends := map[int]bool{}
	for n, parts := 0, []string{origin, asPath, next, med, pref, atomic, aggreg, comms, other, last, ""}; len(parts) > 0; parts = parts[1:] {
		ends[n] = true
		n += len(parts[0])
	}
	for n := range len(all) + 1 {
		want, wantNote := decodeByWord([]byte(all[:n]))
		got, gotNote := Decode([]byte(all[:n]))
		if !isNote(gotNote, wantNote) || !same(got, want) || (gotNote.Code == 3 && gotNote.Sub == 1) == ends[n] {
			t.Errorf("%d bytes: %+v, %+v", n, got, gotNote)
		}
	}
}

// someBytes answers bytes that are nearly attributes.
func someBytes(source *rand.Rand) []byte {
	parts := []string{origin, asPath, next, med, pref, atomic, aggreg, comms, other, last, "\x80\x14\x00", "\xc0\x00\x01x", "\xd0\x1e\x00\x02xy", "\x40\x02\x00", "\xc0\x09\x00", "\xe0\x0a\x02ab"}
	var b []byte
	for _, i := range source.Perm(len(parts))[:source.Intn(len(parts)+1)] {
		b = append(b, parts[i]...)
	}
	if source.Intn(2) == 0 {
		b = append([]byte(head), b[min(len(b), 7):]...)
		b[len(head)-4] = byte(source.Intn(256))
	}
	for range source.Intn(3) {
		if len(b) > 0 {
			b[source.Intn(len(b))] = byte(source.Intn(256) >> source.Intn(8))
		}
	}
	if source.Intn(8) == 0 {
		b = b[:source.Intn(len(b)+1)]
	}
	return b
}

func TestDecodeAsTheWordSays(t *testing.T) {
	source := rand.New(rand.NewSource(7))
	subs := map[int]int{}
	for range 60000 {
		b := someBytes(source)
		want, wantNote := decodeByWord(b)
		got, n := Decode(b)
		if !isNote(n, wantNote) || !same(got, want) {
			t.Fatalf("%x: %+v, %+v, want %+v, %+v", b, got, n, want, wantNote)
		}
		subs[n.Sub]++
		if n.Code == 0 {
			again, note := Decode(Encode(got))
			if !Good(got) || note.Code != 0 || !Same(got, again) {
				t.Fatalf("%x: %+v", b, got)
			}
		}
	}
	for _, sub := range []int{0, 1, 2, 3, 4, 5, 6, 8, 11} {
		if subs[sub] < 20 {
			t.Errorf("Sub %d came %d times alone", sub, subs[sub])
		}
	}
}

// fill changes all that a holds, spare room of its lists included.
func fill(a api.Attrs) {
	for i := range a.Path {
		list := a.Path[i].AS[:cap(a.Path[i].AS)]
		for j := range list {
			list[j] = -7
		}
		a.Path[i] = api.Segment{Set: true}
	}
	for i := range a.Comms[:cap(a.Comms)] {
		a.Comms[:cap(a.Comms)][i] = 77
	}
	for i, r := range a.Raws {
		for j := range r.Data[:cap(r.Data)] {
			r.Data[:cap(r.Data)][j] = 'z'
		}
		a.Raws[i] = api.Raw{}
	}
	clear(a.Raws[:cap(a.Raws)])
}

// roomy answers the full attributes in lists with spare room, and lists that show that room.
func roomy() (a, room api.Attrs) {
	room = full()
	room.Path = append(room.Path, sequence(71))
	room.Path[0].AS = []int{2, 72}
	room.Comms = append(room.Comms, 73)
	room.Raws = append(room.Raws, raw(0xe0, 9, 3))
	room.Raws[2].Data = []byte("xyz")
	a = room
	a.Path, a.Comms, a.Raws = room.Path[:1], room.Comms[:2], room.Raws[:4]
	a.Path[0].AS = a.Path[0].AS[:1]
	a.Raws[2].Data = a.Raws[2].Data[:1]
	return a, room
}

// Rule R4: what is handed in stays, spare room included, and what is answered shares nothing with it.
func TestEncodeSharesNothing(t *testing.T) {
	a, room := roomy()
	before := bare(room)
	b := Encode(a)
	if string(b) != all || !Good(a) || !Same(a, full()) || !same(room, before) || !slices.Equal(room.Path[0].AS[:2], []int{2, 72}) || string(room.Raws[2].Data[:3]) != "xyz" {
		t.Fatalf("%x, %+v", b, room)
	}
	for i := range b[:cap(b)] {
		b[:cap(b)][i] = 0xff
	}
	if again := Encode(a); string(again) != all || !same(a, full()) {
		t.Errorf("%x, %+v", again, a)
	}
	again := Encode(a)
	fill(a)
	if string(again) != all {
		t.Errorf("%x hangs on what was handed in", again)
	}
}

func TestDecodeSharesNothing(t *testing.T) {
	room := append([]byte(last+comms+other+aggreg+atomic+pref+next+med+asPath+origin), "\xe0\x09\x00"...)
	before := bytes.Clone(room)
	b := room[:len(all)]
	a, _ := Decode(b)
	other, _ := Decode(b)
	fill(a)
	if !bytes.Equal(room, before) || !same(other, full()) {
		t.Errorf("%x, %+v", room, other)
	}
	clear(room)
	if !same(other, full()) {
		t.Errorf("%+v hangs on its bytes", other)
	}
	for _, r := range other.Raws {
		_ = append(r.Data, 'z')
	}
	if !same(other, full()) {
		t.Errorf("two lists of an answer share: %+v", other)
	}
}

func TestNotesShareNothing(t *testing.T) {
	for _, whole := range []string{"\x40\x01\x01\x05", "\xc0\x01\x01\x01", "\x40\x03\x03\x0a\x00\x00", "\x40\x09\x02xy", "\xc0\x08\x00"} {
		room := []byte(whole + "\x77")
		b := room[:len(whole)]
		_, n := Decode(b)
		_, again := Decode(b)
		for i := range n.Data[:cap(n.Data)] {
			n.Data[:cap(n.Data)][i] = 0xee
		}
		if string(room) != whole+"\x77" || string(again.Data) != whole {
			t.Errorf("%x: %x, %+v", whole, room, again)
		}
		clear(room)
		if string(again.Data) != whole {
			t.Errorf("%x: %+v hangs on its bytes", whole, again)
		}
	}
	_, n := Decode(nil)
	clear(n.Data)
	mustRefuse(t, "again", "", note(3, "\x01"))
}

// Rule R5: what stood in one call does not stand in the next.
func TestNothingIsKept(t *testing.T) {
	for range 3 {
		mustRead(t, "all", all, full())
		mustRead(t, "the least", head, least())
		mustRefuse(t, "a type twice", head+head, note(1, ""))
		mustRefuse(t, "what lacks", origin, note(3, "\x02"))
	}
}
