package sum

import (
	"bytes"
	"hash/crc32"
	"testing"

	"interregnum/api"
)

// rising answers n bytes: first, first+1, .. with wrap-round.
func rising(n int, first byte) []byte {
	b := make([]byte, n)
	for i := range b {
		b[i] = first + byte(i)
	}
	return b
}

func falling(n int) []byte {
	b := make([]byte, n)
	for i := range b {
		b[i] = byte(n - 1 - i)
	}
	return b
}

func TestExample(t *testing.T) {
	if got := Of([]byte("123456789")); got != 0xe3069283 {
		t.Errorf("got %08x", got)
	}
}

func TestNothing(t *testing.T) {
	for name, b := range map[string][]byte{"nil": nil, "empty": {}, "empty with room": make([]byte, 0, 8)} {
		if got := Of(b); got != 0 {
			t.Errorf("%s: got %08x", name, got)
		}
	}
}

// The sums are those of RFC 3720, B.4, read as numbers, and of single bytes.
func TestKnownSums(t *testing.T) {
	for _, c := range []struct {
		name string
		b    []byte
		want uint32
	}{
		{"a byte 0", []byte{0}, 0x527d5351},
		{"a byte 255", []byte{0xff}, 0xff000000},
		{"a", []byte("a"), 0xc1d04330},
		{"32 bytes 0", make([]byte, 32), 0x8a9136aa},
		{"32 bytes 255", bytes.Repeat([]byte{0xff}, 32), 0x62a8ab43},
		{"32 rising", rising(32, 0), 0x46dd794e},
		{"32 falling", falling(32), 0x113fdb5c},
	} {
		if got := Of(c.b); got != c.want {
			t.Errorf("%s: got %08x, want %08x", c.name, got, c.want)
		}
	}
}

func TestEveryByteAlone(t *testing.T) {
	table := crc32.MakeTable(crc32.Castagnoli)
	for x := range 256 {
		b := []byte{byte(x)}
		if got, want := Of(b), crc32.Checksum(b, table); got != want {
			t.Errorf("byte %d: got %08x, want %08x", x, got, want)
		}
	}
}

func TestManyLengths(t *testing.T) {
	table := crc32.MakeTable(crc32.Castagnoli)
	lengths := []int{api.MaxMsg, api.MaxRecord - 1, api.MaxRecord, api.MaxSectors * api.SectorLen}
	for n := range 3 * api.SectorLen {
		lengths = append(lengths, n)
	}
	for _, n := range lengths {
		b := rising(n, byte(3*n))
		if got, want := Of(b), crc32.Checksum(b, table); got != want {
			t.Errorf("%d bytes: got %08x, want %08x", n, got, want)
		}
	}
}

func TestEachBitCounts(t *testing.T) {
	b := rising(api.SectorLen, 0)
	whole := Of(b)
	for i := range 8 * len(b) {
		b[i/8] ^= 1 << (i % 8)
		if Of(b) == whole {
			t.Errorf("bit %d does not count", i)
		}
		b[i/8] ^= 1 << (i % 8)
	}
}

func TestNoughtsCount(t *testing.T) {
	seen := map[uint32]int{}
	for n := range 100 {
		got := Of(make([]byte, n))
		if m, ok := seen[got]; ok {
			t.Errorf("%d and %d bytes 0 have one sum", m, n)
		}
		seen[got] = n
	}
}

// Rules R4 and R5: the bytes stay as they were, spare room included, and nothing is kept between calls.
func TestBytesStayAndNothingIsKept(t *testing.T) {
	room := rising(64, 7)
	before := bytes.Clone(room)
	first := Of(room[:20])
	Of([]byte("another one"))
	if again := Of(room[:20]); again != first {
		t.Errorf("first %08x, then %08x", first, again)
	}
	if !bytes.Equal(room, before) {
		t.Errorf("changed: %x", room)
	}
	if got, want := Of(room[:20]), Of(before[:20:20]); got != want {
		t.Errorf("spare room counts: %08x, %08x", got, want)
	}
}
