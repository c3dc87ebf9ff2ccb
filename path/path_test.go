package path

import (
	"bytes"
	"encoding/binary"
	"math"
	"math/rand"
	"slices"
	"strings"
	"testing"

	"interregnum/api"
)

// wrongNumbers are no numbers of a good path; four bytes would make right ones of some of them.
var wrongNumbers = []int{0, -1, -2, 1 << 32, 1<<32 + 1, 1<<33 - 1, math.MinInt32, math.MinInt, math.MaxInt}

// rightNumbers stand at the edges of bytes and signs.
var rightNumbers = []int{1, 2, 255, 256, 65535, 65536, 70000, 1 << 24, 1<<31 - 1, 1 << 31, 1<<32 - 2, 1<<32 - 1}

func sequence(as ...int) api.Segment { return api.Segment{AS: as} }

func set(as ...int) api.Segment { return api.Segment{Set: true, AS: as} }

// upTo answers the numbers from 1 to n.
func upTo(n int) []int {
	list := make([]int, n)
	for i := range list {
		list[i] = i + 1
	}
	return list
}

// same tells if two paths are, nil and empty lists being the same.
func same(a, b []api.Segment) bool {
	return slices.EqualFunc(a, b, func(x, y api.Segment) bool {
		return x.Set == y.Set && slices.Equal(x.AS, y.AS)
	})
}

// goodByWord tells the chapter's word of a good path, not by the package's own means.
func goodByWord(p []api.Segment) bool {
	var all []int
	for _, s := range p {
		if len(s.AS) < 1 || len(s.AS) > 255 {
			return false
		}
		all = append(all, s.AS...)
	}
	for _, as := range all {
		if int(uint32(as)) != as || as == 0 {
			return false
		}
	}
	return len(all) <= 64
}

// encodeByWord tells the chapter's sentence on Encode.
func encodeByWord(p []api.Segment) []byte {
	var b []byte
	if !goodByWord(p) {
		return b
	}
	for _, s := range p {
		if s.Set {
			b = append(b, 1)
		} else {
			b = append(b, 2)
		}
		b = append(b, byte(len(s.AS)))
		for _, as := range s.AS {
			b = binary.BigEndian.AppendUint32(b, uint32(as))
		}
	}
	return b
}

// decodeByWord tells the chapter's sentence on Decode.
func decodeByWord(b []byte) ([]api.Segment, bool) {
	var p []api.Segment
	whole := b
	for len(b) >= 2 && len(b) >= 2+4*int(b[1]) {
		s := api.Segment{Set: b[0] == 1}
		for i := range int(b[1]) {
			s.AS = append(s.AS, int(binary.BigEndian.Uint32(b[2+4*i:])))
		}
		p, b = append(p, s), b[2+4*len(s.AS):]
	}
	if !goodByWord(p) || !bytes.Equal(encodeByWord(p), whole) {
		return nil, false
	}
	return p, true
}

// told is a path, and if it is good.
type told struct {
	p    []api.Segment
	good bool
}

// somePaths answers paths at the edges of the word good, by name.
func somePaths() map[string]told {
	return map[string]told{
		"nil":                       {nil, true},
		"no segments":               {[]api.Segment{}, true},
		"one number":                {[]api.Segment{sequence(1)}, true},
		"a Set of one":              {[]api.Segment{set(1)}, true},
		"one number, often":         {[]api.Segment{sequence(7, 7, 7), sequence(7), set(7, 7)}, true},
		"sets alone":                {[]api.Segment{set(9, 8), set(1)}, true},
		"64 numbers":                {[]api.Segment{sequence(upTo(64)...)}, true},
		"a Set of 64":               {[]api.Segment{set(upTo(64)...)}, true},
		"64 in two":                 {[]api.Segment{sequence(upTo(63)...), set(1)}, true},
		"64 segments":               {slices.Repeat([]api.Segment{set(1)}, 64), true},
		"65 numbers":                {[]api.Segment{sequence(upTo(65)...)}, false},
		"a Set of 65":               {[]api.Segment{set(upTo(65)...)}, false},
		"65 in two":                 {[]api.Segment{sequence(upTo(64)...), sequence(1)}, false},
		"65 in two, one ahead":      {[]api.Segment{set(1), sequence(upTo(64)...)}, false},
		"65 segments":               {slices.Repeat([]api.Segment{sequence(1)}, 65), false},
		"255 numbers":               {[]api.Segment{sequence(upTo(255)...)}, false},
		"256 numbers":               {[]api.Segment{sequence(upTo(256)...)}, false},
		"257 numbers":               {[]api.Segment{sequence(upTo(257)...)}, false},
		"an empty sequence":         {[]api.Segment{{}}, false},
		"an empty list":             {[]api.Segment{{AS: []int{}}}, false},
		"an empty Set":              {[]api.Segment{{Set: true}}, false},
		"an empty one last":         {[]api.Segment{sequence(1), {}}, false},
		"an empty one first":        {[]api.Segment{{}, sequence(1)}, false},
		"an empty one between":      {[]api.Segment{sequence(1), {Set: true}, set(1)}, false},
		"0 behind good ones":        {[]api.Segment{sequence(1, 2), set(3, 0)}, false},
		"0 ahead of good ones":      {[]api.Segment{sequence(0, 2), set(3)}, false},
		"too great behind good one": {[]api.Segment{sequence(1, 1<<32)}, false},
	}
}

// withNumber answers paths in which as stands alone, ahead, between and behind, in a sequence and in a Set.
func withNumber(as int) [][]api.Segment {
	return [][]api.Segment{
		{sequence(as)}, {set(as)}, {sequence(as, 1)}, {sequence(1, as)}, {set(1, as, 2)}, {sequence(1), set(as)}, {set(as), sequence(1)},
	}
}

func TestGood(t *testing.T) {
	for name, c := range somePaths() {
		if got := Good(c.p); got != c.good || got != goodByWord(c.p) {
			t.Errorf("%s: %v", name, got)
		}
	}
}

func TestGoodByNumbers(t *testing.T) {
	for _, as := range rightNumbers {
		for _, p := range withNumber(as) {
			if !Good(p) {
				t.Errorf("%+v is good", p)
			}
		}
	}
	for _, as := range wrongNumbers {
		for _, p := range withNumber(as) {
			if Good(p) {
				t.Errorf("%+v is not good", p)
			}
		}
	}
}

func TestEncode(t *testing.T) {
	for _, c := range []struct {
		name string
		p    []api.Segment
		want string
	}{
		{"the chapter's example", nil, ""},
		{"a sequence", []api.Segment{sequence(1)}, "\x02\x01\x00\x00\x00\x01"},
		{"a Set", []api.Segment{set(1)}, "\x01\x01\x00\x00\x00\x01"},
		{"the highest byte first", []api.Segment{sequence(0x01020304)}, "\x02\x01\x01\x02\x03\x04"},
		{"the greatest", []api.Segment{set(1<<32 - 1)}, "\x01\x01\xff\xff\xff\xff"},
		{"in the order given", []api.Segment{set(6, 5), sequence(4), sequence(4, 9)}, "\x01\x02\x00\x00\x00\x06\x00\x00\x00\x05\x02\x01\x00\x00\x00\x04\x02\x02\x00\x00\x00\x04\x00\x00\x00\x09"},
		{"a part is not good", []api.Segment{sequence(1), sequence(0)}, ""},
		{"a segment is empty", []api.Segment{sequence(1), {}}, ""},
	} {
		if got := Encode(c.p); string(got) != c.want {
			t.Errorf("%s: %x, want %x", c.name, got, c.want)
		}
	}
}

func TestEncodeAsTheWordSays(t *testing.T) {
	for name, c := range somePaths() {
		if got := Encode(c.p); !bytes.Equal(got, encodeByWord(c.p)) {
			t.Errorf("%s: %x", name, got)
		}
	}
	for _, as := range slices.Concat(rightNumbers, wrongNumbers) {
		for _, p := range withNumber(as) {
			if got := Encode(p); !bytes.Equal(got, encodeByWord(p)) {
				t.Errorf("%+v: %x", p, got)
			}
		}
	}
}

func TestDecodeOfEncode(t *testing.T) {
	for name, c := range somePaths() {
		if !c.good {
			continue
		}
		if got, ok := Decode(Encode(c.p)); !ok || !same(got, c.p) {
			t.Errorf("%s: %+v, %v", name, got, ok)
		}
	}
	for _, as := range rightNumbers {
		for _, p := range withNumber(as) {
			if got, ok := Decode(Encode(p)); !ok || !same(got, p) {
				t.Errorf("%+v: %+v, %v", p, got, ok)
			}
		}
	}
	for _, b := range [][]byte{nil, {}} {
		if got, ok := Decode(b); !ok || len(got) != 0 {
			t.Errorf("no bytes: %+v, %v", got, ok)
		}
	}
}

func TestDecodeRefuses(t *testing.T) {
	one := "\x02\x01\x00\x00\x00\x01"
	cases := map[string]string{
		"a head's half":        "\x02",
		"a Set's half":         "\x01",
		"no numbers":           "\x02\x00",
		"a Set of none":        "\x01\x00",
		"none, then some":      "\x02\x00" + one,
		"none, between":        one + "\x01\x00" + one,
		"the number 0":         "\x02\x01\x00\x00\x00\x00",
		"the number 0, last":   "\x01\x02\x00\x00\x00\x01\x00\x00\x00\x00",
		"a number lacks":       "\x02\x02\x00\x00\x00\x01",
		"all numbers lack":     "\x02\x01",
		"a byte more":          one + "\x00",
		"a byte more, a kind":  one + "\x02",
		"65 numbers":           "\x02\x41" + strings.Repeat("\x00\x00\x00\x01", 65),
		"255 numbers":          "\x02\xff" + strings.Repeat("\x00\x00\x00\x01", 255),
		"64 numbers and one":   "\x02\x40" + strings.Repeat("\x00\x00\x00\x01", 64) + one,
		"65 segments":          strings.Repeat(one, 65),
		"255 that are lacking": "\x02\xff" + one,
	}
	for name, b := range cases {
		for _, ahead := range []string{"", one} {
			if got, ok := Decode([]byte(ahead + b)); ok || len(got) != 0 {
				t.Errorf("%s: %+v, %v", name, got, ok)
			}
		}
	}
	for kind := range 256 {
		b := []byte(one)
		b[0] = byte(kind)
		if got, ok := Decode(b); ok != (kind == 1 || kind == 2) || !ok && len(got) != 0 {
			t.Errorf("kind %d: %+v, %v", kind, got, ok)
		}
	}
}

// No beginning of a path's bytes is a path, but where a segment ends.
func TestDecodeOfBeginnings(t *testing.T) {
	whole := Encode([]api.Segment{sequence(1, 70000), set(5, 6, 7), sequence(1<<32 - 1)})
	ends := []int{0, 10, 24, 30}
	for n := range len(whole) + 1 {
		got, ok := Decode(whole[:n])
		if ok != slices.Contains(ends, n) || !ok && len(got) != 0 {
			t.Errorf("%d bytes: %+v, %v", n, got, ok)
		}
	}
}

func TestDecodeAsTheWordSays(t *testing.T) {
	source := rand.New(rand.NewSource(6))
	good := 0
	for range 20000 {
		var b []byte
		for range source.Intn(5) {
			n := 1 + source.Intn(20)
			b = append(b, byte(1+source.Intn(2)), byte(n))
			numbers := make([]byte, 4*n)
			source.Read(numbers)
			b = append(b, numbers...)
		}
		if len(b) > 0 && source.Intn(2) == 0 {
			b[source.Intn(len(b))] = byte(source.Intn(4))
		}
		if len(b) > 0 && source.Intn(8) == 0 {
			b = b[:source.Intn(len(b))]
		}
		want, wantOK := decodeByWord(b)
		got, ok := Decode(b)
		if ok != wantOK || !same(got, want) {
			t.Fatalf("%x: %+v, %v, want %+v, %v", b, got, ok, want, wantOK)
		}
		if ok {
			good++
			if !Good(got) || !bytes.Equal(Encode(got), b) {
				t.Fatalf("%x: %+v", b, got)
			}
		}
	}
	if good < 1000 || good > 19000 {
		t.Errorf("%d were good", good)
	}
}

func TestLength(t *testing.T) {
	for _, c := range []struct {
		name string
		p    []api.Segment
		want int
	}{
		{"nil", nil, 0},
		{"no segments", []api.Segment{}, 0},
		{"one", []api.Segment{sequence(1)}, 1},
		{"three", []api.Segment{sequence(1, 1, 1)}, 3},
		{"a Set", []api.Segment{set(1, 2, 3)}, 1},
		{"a Set of one", []api.Segment{set(1)}, 1},
		{"both", []api.Segment{sequence(1, 2), set(5, 6), sequence(3), set(1)}, 5},
		{"two Sets", []api.Segment{set(5, 6), set(5, 6)}, 2},
		{"an empty sequence", []api.Segment{{}}, 0},
		{"an empty Set", []api.Segment{{Set: true}}, 1},
		{"a path that is not good", []api.Segment{sequence(upTo(300)...), set(0, -1), sequence(0)}, 302},
	} {
		if got := Length(c.p); got != c.want {
			t.Errorf("%s: %d, want %d", c.name, got, c.want)
		}
	}
}

func TestFirst(t *testing.T) {
	for _, c := range []struct {
		name string
		p    []api.Segment
		want int
		ok   bool
	}{
		{"nil", nil, 0, false},
		{"no segments", []api.Segment{}, 0, false},
		{"one", []api.Segment{sequence(7)}, 7, true},
		{"the first of some", []api.Segment{sequence(9, 7), sequence(3)}, 9, true},
		{"a Set", []api.Segment{set(7)}, 0, false},
		{"a Set ahead of a sequence", []api.Segment{set(7, 8), sequence(3)}, 0, false},
		{"a sequence ahead of a Set", []api.Segment{sequence(3), set(7, 8)}, 3, true},
		{"an empty sequence", []api.Segment{{}}, 0, false},
		{"an empty sequence ahead of another", []api.Segment{{AS: []int{}}, sequence(3)}, 0, false},
		{"an empty Set", []api.Segment{{Set: true}}, 0, false},
		{"a number that is not good", []api.Segment{sequence(math.MinInt, 1)}, math.MinInt, true},
		{"0", []api.Segment{sequence(0)}, 0, true},
		{"a long one", []api.Segment{sequence(upTo(300)...)}, 1, true},
	} {
		if got, ok := First(c.p); got != c.want || ok != c.ok {
			t.Errorf("%s: %d, %v", c.name, got, ok)
		}
	}
}

func TestHas(t *testing.T) {
	p := []api.Segment{sequence(1, 2), {}, set(5, 6), sequence(-3, 0, 1<<32+9)}
	for _, as := range []int{1, 2, 5, 6, -3, 0, 1<<32 + 9} {
		if !Has(p, as) {
			t.Errorf("%d is in", as)
		}
	}
	for _, as := range []int{3, 4, 7, 9, -1, 1<<32 + 1, 1<<32 + 5, math.MinInt, math.MaxInt} {
		if Has(p, as) {
			t.Errorf("%d is not in", as)
		}
	}
	for _, p := range [][]api.Segment{nil, {}, {{}}, {{Set: true}}} {
		for _, as := range []int{0, 1, -1} {
			if Has(p, as) {
				t.Errorf("%+v has %d", p, as)
			}
		}
	}
}

func TestPrepend(t *testing.T) {
	for _, c := range []struct {
		name    string
		p, want []api.Segment
	}{
		{"nil", nil, []api.Segment{sequence(9)}},
		{"no segments", []api.Segment{}, []api.Segment{sequence(9)}},
		{"a sequence", []api.Segment{sequence(1, 2)}, []api.Segment{sequence(9, 1, 2)}},
		{"an empty sequence", []api.Segment{{}}, []api.Segment{sequence(9)}},
		{"a Set", []api.Segment{set(1, 2)}, []api.Segment{sequence(9), set(1, 2)}},
		{"an empty Set", []api.Segment{{Set: true}}, []api.Segment{sequence(9), {Set: true}}},
		{"a sequence ahead of others", []api.Segment{sequence(1), set(2), sequence(3)}, []api.Segment{sequence(9, 1), set(2), sequence(3)}},
		{"a Set ahead of others", []api.Segment{set(1), sequence(2), {}}, []api.Segment{sequence(9), set(1), sequence(2), {}}},
		{"64 numbers", []api.Segment{sequence(upTo(64)...)}, []api.Segment{sequence(slices.Concat([]int{9}, upTo(64))...)}},
		{"254 numbers", []api.Segment{sequence(upTo(254)...), set(1)}, []api.Segment{sequence(slices.Concat([]int{9}, upTo(254))...), set(1)}},
		{"255 numbers", []api.Segment{sequence(upTo(255)...), set(1)}, []api.Segment{sequence(9), sequence(upTo(255)...), set(1)}},
		{"256 numbers", []api.Segment{sequence(upTo(256)...)}, []api.Segment{sequence(9), sequence(upTo(256)...)}},
		{"a Set of 3, of 255", []api.Segment{set(1, 2, 3), sequence(upTo(255)...)}, []api.Segment{sequence(9), set(1, 2, 3), sequence(upTo(255)...)}},
	} {
		if got := Prepend(c.p, 9); !same(got, c.want) {
			t.Errorf("%s: %+v, want %+v", c.name, got, c.want)
		}
	}
	for _, as := range slices.Concat(rightNumbers, wrongNumbers) {
		if got := Prepend([]api.Segment{sequence(5)}, as); !same(got, []api.Segment{sequence(as, 5)}) {
			t.Errorf("%d: %+v", as, got)
		}
	}
}

// fill puts -1 into all numbers of p, spare room of its lists included.
func fill(p []api.Segment) {
	for i := range p[:cap(p)] {
		s := &p[:cap(p)][i]
		for j := range s.AS[:cap(s.AS)] {
			s.AS[:cap(s.AS)][j] = -1
		}
		s.Set = !s.Set
	}
}

// roomy answers a path whose lists all have spare room, and the rooms.
func roomy() ([]api.Segment, []api.Segment) {
	room := []api.Segment{sequence(1, 2, 71, 72), set(5, 6, 73), sequence(3, 74), sequence(75), set(76)}
	return append(room[:0:cap(room)], api.Segment{AS: room[0].AS[:2]}, api.Segment{Set: true, AS: room[1].AS[:2]}, api.Segment{AS: room[2].AS[:1]}), room
}

// Rule R4: what is handed in stays, spare room included, and what is answered shares nothing with it.
func TestPrependSharesNothing(t *testing.T) {
	for from := range 3 {
		p, room := roomy()
		p = p[from:]
		want, again := Prepend(p, 9), Prepend(p, 9)
		if !slices.Equal(room[0].AS[:cap(room[0].AS)], []int{1, 2, 71, 72}) || !slices.Equal(room[1].AS[:3], []int{5, 6, 73}) || !slices.Equal(room[2].AS[:2], []int{3, 74}) {
			t.Fatalf("from %d: numbers of %+v", from, room)
		}
		if !same(room[3:], []api.Segment{sequence(75), set(76)}) {
			t.Fatalf("from %d: spare room %+v", from, room[3:])
		}
		fill(again)
		if got := Prepend(p, 9); !same(got, want) {
			t.Errorf("from %d: %+v, want %+v", from, got, want)
		}
		before := Encode(want)
		fill(p)
		if !bytes.Equal(Encode(want), before) || len(before) == 0 {
			t.Errorf("from %d: %+v hangs on what was handed in", from, want)
		}
	}
}

func TestBytesShareNothing(t *testing.T) {
	p, room := roomy()
	b, again := Encode(p), Encode(p)
	for i := range b[:cap(b)] {
		b[:cap(b)][i] = 0xff
	}
	if !bytes.Equal(Encode(p), again) || !slices.Equal(room[0].AS[:4], []int{1, 2, 71, 72}) {
		t.Errorf("Encode: %x, %+v", again, room)
	}
	bytesRoom := append(bytes.Clone(again), 1, 1, 0, 0, 0, 8)
	before := bytes.Clone(bytesRoom)
	q, _ := Decode(bytesRoom[:len(again)])
	other, _ := Decode(bytesRoom[:len(again)])
	fill(q)
	if !bytes.Equal(bytesRoom, before) || !same(other, p) {
		t.Errorf("Decode: %x, %+v", bytesRoom, other)
	}
	clear(bytesRoom)
	if !same(other, p) {
		t.Errorf("Decode hangs on its bytes: %+v", other)
	}
	// A list of an answer may be made longer: no other list of it is meant by that.
	_ = append(other[0].AS, -1)
	if !same(other, p) {
		t.Errorf("two lists of an answer share: %+v", other)
	}
}

// Rule R5: how much was counted in one call does not count in the next.
func TestNothingIsKept(t *testing.T) {
	p := []api.Segment{sequence(upTo(40)...)}
	b := Encode(p)
	for range 3 {
		if got, ok := Decode(b); !ok || !same(got, p) || !Good(p) || !bytes.Equal(Encode(p), b) {
			t.Errorf("again: %+v, %v", got, ok)
		}
	}
}
