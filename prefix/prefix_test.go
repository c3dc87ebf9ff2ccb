package prefix

import (
	"bytes"
	"fmt"
	"math"
	"math/rand"
	"slices"
	"strings"
	"testing"

	"interregnum/api"
)

// wrongLens are lengths that no prefix has; a byte or a shift would make right ones of some of them.
var wrongLens = []int{-1, -8, -32, -256, 33, 34, 40, 64, 255, 256, 264, 1 << 32, 1<<32 + 8, math.MinInt32, math.MaxInt32, math.MinInt, math.MaxInt}

// someAddrs are addresses at the edges of bytes and bits.
var someAddrs = []uint32{0, 1, 2, 0x7f, 0x80, 0xff, 0x100, 0xffff, 0x10000, 0x0a000000, 0x0a010203, 0x0a0102ff, 0x7fffffff, 0x80000000, 0x80000001, 0xaaaaaaaa, 0x55555555, 0xc0a80101, 0xfffffffe, 0xffffffff}

// bitsOf answers addr as a text of 32 digits 0 and 1.
func bitsOf(addr uint32) string {
	return fmt.Sprintf("%032b", addr)
}

// isRightByText tells the chapter's word by texts of bits, not by the package's own means.
func isRightByText(p api.Prefix) bool {
	return p.Len >= 0 && p.Len <= 32 && !strings.Contains(bitsOf(p.Addr)[p.Len:], "1")
}

// coversByText tells the chapter's sentence on Covers by texts of bits.
func coversByText(a, b api.Prefix) bool {
	if !isRightByText(a) || !isRightByText(b) || a.Len > b.Len {
		return false
	}
	return bitsOf(a.Addr)[:a.Len] == bitsOf(b.Addr)[:a.Len]
}

// manyPrefixes answers right ones and wrong ones, many of them close to each other.
func manyPrefixes() []api.Prefix {
	var list []api.Prefix
	for _, addr := range someAddrs {
		for n := -1; n <= 33; n++ {
			list = append(list, api.Prefix{Addr: addr, Len: n})
			if n >= 0 && n < 32 {
				list = append(list, api.Prefix{Addr: addr >> (32 - n) << (32 - n), Len: n})
			}
		}
		for _, n := range wrongLens {
			list = append(list, api.Prefix{Addr: addr, Len: n})
		}
	}
	return list
}

func TestMakeKeepsTheFirstBits(t *testing.T) {
	for _, addr := range someAddrs {
		for n := 0; n <= 32; n++ {
			p, ok := Make(addr, n)
			want := bitsOf(addr)[:n] + strings.Repeat("0", 32-n)
			if !ok || p.Len != n || bitsOf(p.Addr) != want {
				t.Errorf("Make(%08x, %d): %+v, %v", addr, n, p, ok)
			}
		}
	}
}

func TestMakeAtItsEnds(t *testing.T) {
	for _, c := range []struct {
		addr uint32
		n    int
		want api.Prefix
	}{
		{0xffffffff, 0, api.Prefix{}},
		{0, 0, api.Prefix{}},
		{0xffffffff, 1, api.Prefix{Addr: 0x80000000, Len: 1}},
		{0xffffffff, 31, api.Prefix{Addr: 0xfffffffe, Len: 31}},
		{0xffffffff, 32, api.Prefix{Addr: 0xffffffff, Len: 32}},
		{0, 32, api.Prefix{Len: 32}},
		{0x0a0102ff, 20, api.Prefix{Addr: 0x0a010000, Len: 20}},
	} {
		if p, ok := Make(c.addr, c.n); !ok || p != c.want {
			t.Errorf("Make(%08x, %d): %+v, %v, want %+v", c.addr, c.n, p, ok, c.want)
		}
	}
}

func TestMakeRefusesOtherLengths(t *testing.T) {
	for _, addr := range someAddrs {
		for _, n := range wrongLens {
			if p, ok := Make(addr, n); ok || p != (api.Prefix{}) {
				t.Errorf("Make(%08x, %d): %+v, %v", addr, n, p, ok)
			}
		}
	}
}

func TestCovers(t *testing.T) {
	all := api.Prefix{}
	ten := api.Prefix{Addr: 0x0a000000, Len: 8}
	for _, c := range []struct {
		name string
		a, b api.Prefix
		want bool
	}{
		{"all of all", all, all, true},
		{"all of one", all, api.Prefix{Addr: 0xffffffff, Len: 32}, true},
		{"itself", ten, ten, true},
		{"one bit longer, 0", ten, api.Prefix{Addr: 0x0a000000, Len: 9}, true},
		{"one bit longer, 1", ten, api.Prefix{Addr: 0x0a800000, Len: 9}, true},
		{"its last address", ten, api.Prefix{Addr: 0x0affffff, Len: 32}, true},
		{"the address behind", ten, api.Prefix{Addr: 0x0b000000, Len: 32}, false},
		{"the address ahead", ten, api.Prefix{Addr: 0x09ffffff, Len: 32}, false},
		{"shorter, of the same bits", ten, api.Prefix{Addr: 0x0a000000, Len: 7}, false},
		{"of all", ten, all, false},
		{"an address", api.Prefix{Addr: 7, Len: 32}, api.Prefix{Addr: 7, Len: 32}, true},
		{"another address", api.Prefix{Addr: 7, Len: 32}, api.Prefix{Addr: 6, Len: 32}, false},
		{"the first bit", api.Prefix{Addr: 0x80000000, Len: 1}, api.Prefix{Len: 1}, false},
	} {
		if got := Covers(c.a, c.b); got != c.want {
			t.Errorf("%s: %v", c.name, got)
		}
	}
}

func TestCoversNeedsBothRight(t *testing.T) {
	right := api.Prefix{Addr: 0x0a000000, Len: 8}
	all := api.Prefix{}
	wrong := []api.Prefix{{Addr: 0x0a000001, Len: 8}, {Addr: 0x0a800000, Len: 8}, {Addr: 1}, {Addr: 0x80000000}, {Addr: 1, Len: 31}}
	for _, n := range wrongLens {
		wrong = append(wrong, api.Prefix{Len: n}, api.Prefix{Addr: 0x0a000000, Len: n}, api.Prefix{Addr: 0xffffffff, Len: n})
	}
	for _, w := range wrong {
		for _, pair := range [][2]api.Prefix{{w, w}, {w, right}, {right, w}, {w, all}, {all, w}, {w, {Addr: 0x0a000001, Len: 32}}} {
			if Covers(pair[0], pair[1]) {
				t.Errorf("Covers(%+v, %+v)", pair[0], pair[1])
			}
		}
	}
}

func TestCoversAsTextsDo(t *testing.T) {
	list := manyPrefixes()
	for _, a := range list {
		for _, b := range list {
			if got, want := Covers(a, b), coversByText(a, b); got != want {
				t.Fatalf("Covers(%+v, %+v): %v", a, b, got)
			}
		}
	}
}

func TestCompare(t *testing.T) {
	// Each is ahead of those behind it: Addr counts first, without a sign, and Len with one; wrong ones count too.
	rising := []api.Prefix{
		{Len: math.MinInt},
		{Len: -1},
		{},
		{Len: 8},
		{Len: 32},
		{Len: 1 << 32},
		{Len: math.MaxInt},
		{Addr: 1, Len: math.MinInt},
		{Addr: 1, Len: 0},
		{Addr: 0x0a000000, Len: 8},
		{Addr: 0x0a000000, Len: 16},
		{Addr: 0x0a010000, Len: 16},
		{Addr: 0x7fffffff, Len: 32},
		{Addr: 0x80000000, Len: 1},
		{Addr: 0x80000000, Len: 2},
		{Addr: 0xffffffff, Len: -1},
		{Addr: 0xffffffff, Len: 32},
	}
	for i, a := range rising {
		for j, b := range rising {
			want := 0
			if i < j {
				want = -1
			} else if i > j {
				want = 1
			}
			if got := Compare(a, b); got != want {
				t.Errorf("Compare(%+v, %+v): %d", a, b, got)
			}
		}
	}
}

func TestEncode(t *testing.T) {
	for _, c := range []struct {
		name string
		list []api.Prefix
		want string
	}{
		{"the chapter's example", []api.Prefix{{Addr: 0x0a000000, Len: 8}}, "\x08\x0a"},
		{"nil", nil, ""},
		{"none", []api.Prefix{}, ""},
		{"no bits", []api.Prefix{{}}, "\x00"},
		{"1 bit", []api.Prefix{{Addr: 0x80000000, Len: 1}}, "\x01\x80"},
		{"7 bits", []api.Prefix{{Addr: 0xfe000000, Len: 7}}, "\x07\xfe"},
		{"9 bits", []api.Prefix{{Addr: 0x0a800000, Len: 9}}, "\x09\x0a\x80"},
		{"16 bits", []api.Prefix{{Addr: 0x0a010000, Len: 16}}, "\x10\x0a\x01"},
		{"17 bits", []api.Prefix{{Addr: 0x0a018000, Len: 17}}, "\x11\x0a\x01\x80"},
		{"24 bits", []api.Prefix{{Addr: 0xc0a80100, Len: 24}}, "\x18\xc0\xa8\x01"},
		{"25 bits", []api.Prefix{{Addr: 0xc0a80180, Len: 25}}, "\x19\xc0\xa8\x01\x80"},
		{"32 bits", []api.Prefix{{Addr: 0x01020304, Len: 32}}, "\x20\x01\x02\x03\x04"},
		{"32 bits 0", []api.Prefix{{Len: 32}}, "\x20\x00\x00\x00\x00"},
		{"in the order given, twice", []api.Prefix{{Addr: 0x0b000000, Len: 8}, {Addr: 0x0a000000, Len: 8}, {Addr: 0x0b000000, Len: 8}}, "\x08\x0b\x08\x0a\x08\x0b"},
		{"wrong ones between", []api.Prefix{{Addr: 1}, {Addr: 0x0a000000, Len: 8}, {Addr: 0x0a000001, Len: 8}, {Len: 33}, {}, {Len: -1}}, "\x08\x0a\x00"},
	} {
		if got := Encode(c.list); string(got) != c.want {
			t.Errorf("%s: %x, want %x", c.name, got, c.want)
		}
	}
}

func TestEncodeLeavesOutWrongLengths(t *testing.T) {
	for _, n := range wrongLens {
		if got := Encode([]api.Prefix{{Len: n}, {Addr: 0xffffffff, Len: n}}); len(got) != 0 {
			t.Errorf("Len %d: %x", n, got)
		}
	}
}

func TestDecode(t *testing.T) {
	for _, c := range []struct {
		name string
		b    string
		want []api.Prefix
	}{
		{"the chapter's example", "\x08\x0a", []api.Prefix{{Addr: 0x0a000000, Len: 8}}},
		{"nothing", "", nil},
		{"no bits", "\x00", []api.Prefix{{}}},
		{"no bits, twice", "\x00\x00", []api.Prefix{{}, {}}},
		{"bits behind, no bytes", "\x00\x08\xff", []api.Prefix{{}, {Addr: 0xff000000, Len: 8}}},
		{"1 bit, bits behind", "\x01\xff", []api.Prefix{{Addr: 0x80000000, Len: 1}}},
		{"7 bits, the bit behind", "\x07\xff", []api.Prefix{{Addr: 0xfe000000, Len: 7}}},
		{"9 bits, bits behind", "\x09\x0a\x7f", []api.Prefix{{Addr: 0x0a000000, Len: 9}}},
		{"20 bits, bits behind", "\x14\x0a\x01\x0f", []api.Prefix{{Addr: 0x0a010000, Len: 20}}},
		{"31 bits, the bit behind", "\x1f\xff\xff\xff\xff", []api.Prefix{{Addr: 0xfffffffe, Len: 31}}},
		{"32 bits", "\x20\x01\x02\x03\x04", []api.Prefix{{Addr: 0x01020304, Len: 32}}},
		{"one twice, in the order given", "\x08\x0b\x08\x0a\x08\x0b", []api.Prefix{{Addr: 0x0b000000, Len: 8}, {Addr: 0x0a000000, Len: 8}, {Addr: 0x0b000000, Len: 8}}},
	} {
		if got, ok := Decode([]byte(c.b)); !ok || !slices.Equal(got, c.want) {
			t.Errorf("%s: %+v, %v", c.name, got, ok)
		}
	}
	if got, ok := Decode(nil); !ok || len(got) != 0 {
		t.Errorf("nil: %+v, %v", got, ok)
	}
}

func TestDecodeRefusesGreatLengths(t *testing.T) {
	for n := 33; n <= 255; n++ {
		b := append([]byte{8, 10, byte(n)}, make([]byte, 64)...)
		for _, b := range [][]byte{b, b[2:], b[:3]} {
			if got, ok := Decode(b); ok || len(got) != 0 {
				t.Errorf("Len %d of %d bytes: %+v, %v", n, len(b), got, ok)
			}
		}
	}
}

// Bytes lack, whether the prefix stands alone or behind good ones; beside the false nothing is told of these.
func TestDecodeRefusesLackingBytes(t *testing.T) {
	for n := 1; n <= 32; n++ {
		whole := append([]byte{byte(n)}, bytes.Repeat([]byte{0xff}, (n+7)/8)...)
		if got, ok := Decode(whole); !ok || len(got) != 1 {
			t.Errorf("Len %d: %+v, %v", n, got, ok)
		}
		for size := 1; size < len(whole); size++ {
			for _, ahead := range []string{"", "\x00", "\x08\x0a"} {
				b := append([]byte(ahead), whole[:size]...)
				if got, ok := Decode(b); ok || len(got) != 0 {
					t.Errorf("%x: %+v, %v", b, got, ok)
				}
			}
		}
	}
}

func TestDecodeOfEncode(t *testing.T) {
	list := manyPrefixes()
	var right []api.Prefix
	for _, p := range list {
		if isRightByText(p) {
			right = append(right, p)
		}
	}
	if len(right) < 100 || len(right) == len(list) {
		t.Fatalf("%d right ones of %d", len(right), len(list))
	}
	got, ok := Decode(Encode(list))
	if !ok || !slices.Equal(got, right) {
		t.Errorf("%v, %d prefixes, want %d", ok, len(got), len(right))
	}
}

// decodeByText tells the chapter's sentence on Decode by texts of bits.
func decodeByText(b []byte) ([]api.Prefix, bool) {
	var list []api.Prefix
	for len(b) > 0 {
		n := int(b[0])
		size := n / 8
		if n%8 != 0 {
			size++
		}
		if n > 32 || len(b) < 1+size {
			return nil, false
		}
		digits := ""
		for _, x := range b[1 : 1+size] {
			digits += fmt.Sprintf("%08b", x)
		}
		p := api.Prefix{Len: n}
		for i, digit := range digits[:n] {
			if digit == '1' {
				p.Addr |= 1 << (31 - i)
			}
		}
		list = append(list, p)
		b = b[1+size:]
	}
	return list, true
}

func TestDecodeAsTextsDo(t *testing.T) {
	source := rand.New(rand.NewSource(5))
	good := 0
	for range 20000 {
		b := make([]byte, source.Intn(24))
		source.Read(b)
		for i := range b {
			if source.Intn(2) == 0 {
				b[i] %= 36
			}
		}
		want, wantOK := decodeByText(b)
		got, ok := Decode(b)
		if ok != wantOK || !slices.Equal(got, want) {
			t.Fatalf("%x: %+v, %v, want %+v, %v", b, got, ok, want, wantOK)
		}
		if ok {
			good++
			for _, p := range got {
				if !isRightByText(p) {
					t.Fatalf("%x: %+v is not right", b, p)
				}
			}
		}
	}
	if good < 1000 {
		t.Errorf("only %d were good", good)
	}
}

// Rules R4 and R5: what is handed in stays, spare room included, and no answer shares memory with it or with another answer.
func TestMemory(t *testing.T) {
	room := []api.Prefix{{Addr: 0x0a000000, Len: 8}, {Addr: 1, Len: 3}, {Addr: 7, Len: 32}, {Addr: 9, Len: 9}}
	before := slices.Clone(room)
	b, again := Encode(room[:2]), Encode(room[:2])
	b[0], b[1] = 0xff, 0xff
	if !slices.Equal(room, before) || string(again) != "\x08\x0a" || string(Encode(room[:2])) != "\x08\x0a" {
		t.Errorf("Encode: %+v, %x", room, again)
	}
	bytesRoom := []byte{9, 10, 0xff, 0x21, 0x22}
	bytesBefore := bytes.Clone(bytesRoom)
	list, _ := Decode(bytesRoom[:3])
	other, _ := Decode(bytesRoom[:3])
	list[0] = api.Prefix{}
	_ = append(list, api.Prefix{Addr: 1})
	want := []api.Prefix{{Addr: 0x0a800000, Len: 9}}
	if !bytes.Equal(bytesRoom, bytesBefore) || !slices.Equal(other, want) {
		t.Errorf("Decode: %x, %+v", bytesRoom, other)
	}
	if third, ok := Decode(bytesRoom[:3]); !ok || !slices.Equal(third, want) {
		t.Errorf("Decode again: %+v, %v", third, ok)
	}
}
