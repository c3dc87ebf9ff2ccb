package region

import (
	"bytes"
	"encoding/binary"
	"hash/crc32"
	"math"
	"math/rand"
	"testing"

	"interregnum/api"
	"interregnum/sector"
)

// some answers n bytes, none of them 0, that differ from sector to sector.
func some(n int) []byte {
	b := make([]byte, n)
	for i := range b {
		b[i] = byte(1 + (i+i/64*7)%255)
	}
	return b
}

// image answers an entry's sectors as the chapter's words say, told without the package's own means.
func image(gen uint32, b []byte) []byte {
	table := crc32.MakeTable(crc32.Castagnoli)
	h := binary.BigEndian.AppendUint32(nil, gen)
	h = binary.BigEndian.AppendUint32(h, uint32(len(b)))
	h = binary.BigEndian.AppendUint32(h, crc32.Checksum(b, table))
	h = binary.BigEndian.AppendUint32(h, crc32.Checksum(h, table))
	h = append(h, make([]byte, 48)...)
	h = append(h, b...)
	for len(h)%64 != 0 {
		h = append(h, 0)
	}
	return h
}

// lasting answers what of all sectors lasts.
func lasting(d *sector.Disk) []byte {
	var all []byte
	for at := range d.Len() {
		b, _ := d.Lasts(at)
		all = append(all, b...)
	}
	return all
}

// reading answers all sectors, with what is loose.
func reading(d *sector.Disk) []byte {
	var all []byte
	for at := range d.Len() {
		b, _ := d.Read(at)
		all = append(all, b...)
	}
	return all
}

// disk answers a disk of n sectors with these bytes from sector at on, which last.
func disk(t *testing.T, n, at int, b []byte) *sector.Disk {
	t.Helper()
	d := sector.New(n)
	for i := 0; i < len(b); i += 64 {
		if e := d.Write(at+i/64, b[i:min(i+64, len(b))]); e != api.OK {
			t.Fatalf("Write(%d): error %d", at+i/64, e)
		}
	}
	d.Flush()
	return d
}

// filled answers a disk of n sectors without a 0.
func filled(t *testing.T, n int) *sector.Disk {
	t.Helper()
	return disk(t, n, 0, bytes.Repeat([]byte{0xee}, 64*n))
}

// lay lays and wants the sector behind it.
func lay(t *testing.T, d *sector.Disk, at, end, gen int, b []byte) int {
	t.Helper()
	next, e := Lay(d, at, end, gen, b)
	if e != api.OK || next != at+Size(len(b)) {
		t.Fatalf("Lay(%d, %d, %d, %d bytes): %d, error %d", at, end, gen, len(b), next, e)
	}
	return next
}

// scan wants what Scan answers.
func scan(t *testing.T, d *sector.Disk, at, end, gen, behind int, want ...[]byte) {
	t.Helper()
	got, next := Scan(d, at, end, gen)
	same := len(got) == len(want) && next == behind
	for i := range got {
		same = same && bytes.Equal(got[i], want[i])
	}
	if !same {
		t.Errorf("Scan(%d, %d, %d): %d entries, then sector %d; want %d, then %d", at, end, gen, len(got), next, len(want), behind)
	}
}

// The chapter's example.
func TestExample(t *testing.T) {
	d := sector.New(4)
	lay(t, d, 0, 4, 1, []byte("the same"))
	scan(t, d, 0, 4, 1, 2, []byte("the same"))
}

func TestSize(t *testing.T) {
	for n, want := range map[int]int{
		math.MinInt: 1, -65: 1, -64: 1, -1: 1, 0: 1,
		1: 2, 2: 2, 63: 2, 64: 2, 65: 3, 127: 3, 128: 3, 129: 4,
		api.MaxRecord - 1: 129, api.MaxRecord: 129, api.MaxRecord + 1: 130,
		math.MaxInt: math.MaxInt/64 + 2, math.MaxInt - 63: math.MaxInt/64 + 1,
	} {
		if got := Size(n); got != want {
			t.Errorf("Size(%d): %d, want %d", n, got, want)
		}
	}
}

// P3.1 and its words: the bytes of an entry, all of which last; the sectors beside it stay.
func TestLayBytes(t *testing.T) {
	for _, n := range []int{0, 1, 2, 63, 64, 65, 127, 128, 129, api.MaxRecord - 1, api.MaxRecord} {
		for _, gen := range []int{0, 1, 255, 256, 0x01020304, math.MaxInt32 - 1, math.MaxInt32} {
			for _, b := range [][]byte{some(n), make([]byte, n)} {
				d := filled(t, Size(n)+5)
				want := lasting(d)
				copy(want[3*64:], image(uint32(gen), b))
				if next, e := Lay(d, 3, d.Len(), gen, b); e != api.OK || next != 3+Size(n) {
					t.Errorf("Lay of %d bytes: %d, error %d", n, next, e)
				}
				if !bytes.Equal(lasting(d), want) || d.Loose() != 0 {
					t.Errorf("Lay of %d bytes, gen %d: other sectors than said, or %d loose", n, gen, d.Loose())
				}
				scan(t, d, 3, d.Len(), gen, 3+Size(n), b)
			}
		}
	}
}

// P3.1: one entry's bytes written out, so that nothing is worked out here.
func TestLayKnownBytes(t *testing.T) {
	d := sector.New(2)
	lay(t, d, 0, 2, 0x0a0b0c0d, []byte("123456789"))
	head, _ := d.Lasts(0)
	if !bytes.Equal(head[:12], []byte{0x0a, 0x0b, 0x0c, 0x0d, 0, 0, 0, 9, 0xe3, 0x06, 0x92, 0x83}) {
		t.Errorf("head: %x", head)
	}
	if crc := crc32.Checksum(head[:12], crc32.MakeTable(crc32.Castagnoli)); binary.BigEndian.Uint32(head[12:]) != crc {
		t.Errorf("head: %x, its sum is %08x", head, crc)
	}
}

// P3.1, R2, R3, R6: ErrArg, ahead of ErrFull and of ErrDown; nothing is changed.
func TestLayWrongArguments(t *testing.T) {
	for _, c := range []struct {
		at, end, gen, n int
	}{
		{0, 1000, 1, api.MaxRecord + 1}, {0, 1000, 1, 2 * api.MaxRecord}, {0, 0, 1, api.MaxRecord + 1},
		{0, 9, -1, 1}, {0, 9, math.MinInt, 1}, {0, 9, 1 << 31, 1}, {0, 9, math.MaxInt, 1}, {0, 9, 1<<32 + 1, 1}, {0, 0, -1, 1},
		{-1, 9, 1, 1}, {-9, 9, 1, 0}, {math.MinInt, 9, 1, 1}, {math.MinInt, math.MinInt, 1, 1}, {-1, -5, 1, 1},
	} {
		for _, power := range []bool{true, false} {
			d := filled(t, 200)
			if !power {
				d.Fuse(0)
			}
			if next, e := Lay(d, c.at, c.end, c.gen, some(c.n)); e != api.ErrArg || next != 0 {
				t.Errorf("Lay(%d, %d, %d, %d bytes): %d, error %d", c.at, c.end, c.gen, c.n, next, e)
			}
			if !bytes.Equal(reading(d), lasting(filled(t, 200))) || d.Loose() != 0 {
				t.Errorf("Lay(%d, %d, %d, %d bytes): changed", c.at, c.end, c.gen, c.n)
			}
		}
	}
}

// P3.1, R2, R3, R6: ErrFull at just one sector too few, be it the region's end or the disk's, ahead of ErrDown.
func TestLayFull(t *testing.T) {
	for _, c := range []struct {
		at, end, n int
		full       bool
	}{
		{6, 9, 128, false}, {6, 9, 129, true}, {8, 9, 0, false}, {8, 9, 1, true}, {7, 9, 64, false}, {7, 9, 65, true},
		{9, 9, 0, true}, {10, 9, 0, true}, {0, 0, 0, true}, {0, 1, 0, false}, {0, 1, 1, true},
		{0, -1, 0, true}, {0, math.MinInt, 0, true}, {math.MaxInt, math.MinInt, 0, true},
		{9, 11, 0, false}, {9, 11, 1, true}, {9, math.MaxInt, 0, false}, {9, math.MaxInt, 1, true},
		{10, 11, 0, true}, {10, math.MaxInt, 0, true}, {math.MaxInt, math.MaxInt, 0, true}, {math.MaxInt - 1, math.MaxInt, 64, true},
		{0, math.MaxInt, 9 * 64, false}, {0, math.MaxInt, 9*64 + 1, true}, {0, 1000, api.MaxRecord, true},
	} {
		for _, power := range []bool{true, false} {
			d := filled(t, 10)
			if !power {
				d.Fuse(0)
			}
			want, wantNext := api.OK, c.at+Size(c.n)
			if !power {
				want, wantNext = api.ErrDown, 0
			}
			if c.full {
				want, wantNext = api.ErrFull, 0
			}
			next, e := Lay(d, c.at, c.end, 1, some(c.n))
			if e != want || next != wantNext {
				t.Errorf("power %t: Lay(%d, %d, 1, %d bytes): %d, error %d; want %d, error %d", power, c.at, c.end, c.n, next, e, wantNext, want)
			}
			if e != api.OK && !bytes.Equal(reading(d), lasting(filled(t, 10))) {
				t.Errorf("power %t: Lay(%d, %d, 1, %d bytes): changed", power, c.at, c.end, c.n)
			}
		}
	}
}

// P3.1: the sectors with its bytes, Flush, the head, Flush: seen by taking the power behind each of them.
func TestLayOrder(t *testing.T) {
	for _, n := range []int{0, 1, 64, 65, 200} {
		b := some(n)
		whole := image(5, b)
		parts := Size(n) - 1
		for done := range parts + 4 {
			d := filled(t, 8)
			read, last := lasting(d), lasting(d)
			copy(read[2*64:], whole[64:64*(1+min(done, parts))])
			loose := min(done, parts)
			if done > parts {
				copy(last[2*64:], whole[64:])
				loose = 0
			}
			if done > parts+1 {
				copy(read[64:], whole[:64])
				loose = 1
			}
			if done > parts+2 {
				copy(last[64:], whole[:64])
				loose = 0
			}
			d.Fuse(done)
			next, e := Lay(d, 1, 8, 5, b)
			if full := done == parts+3; full && (e != api.OK || next != 1+Size(n)) || !full && (e != api.ErrDown || next != 0) {
				t.Errorf("%d bytes, Fuse(%d): %d, error %d", n, done, next, e)
			}
			if !bytes.Equal(reading(d), read) || !bytes.Equal(lasting(d), last) || d.Loose() != loose {
				t.Errorf("%d bytes, Fuse(%d): other sectors than said", n, done)
			}
			if e == api.OK && d.Flush() != api.ErrDown {
				t.Errorf("%d bytes: fewer Writes and Flushes than said", n)
			}
		}
	}
}

// P3.1 with P2.2: wherever the power goes, whatever lands: behind the crash there is the whole entry, or none.
func TestLayAndCrash(t *testing.T) {
	old, b := some(70), some(130)
	for _, clean := range []bool{true, false} {
		for done := range 8 {
			for _, keep := range []uint64{0, 1, 2, 3, 4, 5, 6, 7, math.MaxUint64} {
				for torn := -1; torn < 4; torn++ {
					for _, at := range []int{0, 1, 4, 8, 11, 12, 13, 15, 16, 17, 63, 64} {
						d := sector.New(10)
						if !clean {
							lay(t, d, 3, 10, 6, some(300))
						}
						next := lay(t, d, 0, 10, 7, old)
						d.Fuse(done)
						_, e := Lay(d, next, 10, 7, b)
						d.Crash(keep, torn, at)
						got, behind := Scan(d, 0, 10, 7)
						whole := len(got) == 2 && behind == 7 && bytes.Equal(got[1], b)
						none := len(got) == 1 && behind == 3
						if !whole && !none || !bytes.Equal(got[0], old) || e == api.OK && !whole {
							t.Fatalf("clean %t, Fuse(%d), Crash(%d, %d, %d): %d entries, then %d", clean, done, keep, torn, at, len(got), behind)
						}
					}
				}
			}
		}
	}
}

// P3.1: entries one behind the other, empty ones, too, from any of their beginnings on, up to any end.
func TestScanMany(t *testing.T) {
	d := filled(t, 40)
	var begins []int
	var all [][]byte
	at := 2
	for _, n := range []int{0, 1, 0, 0, 64, 65, 500, 128, 0, 63} {
		begins, all = append(begins, at), append(all, some(n))
		at = lay(t, d, at, 40, 9, some(n))
	}
	for i, begin := range begins {
		for end := begin; end < 45; end++ {
			behind, last := begin, i
			for last < len(all) && behind+Size(len(all[last])) <= end {
				behind += Size(len(all[last]))
				last++
			}
			scan(t, d, begin, end, 9, behind, all[i:last]...)
		}
		scan(t, d, begin, math.MaxInt, 9, at, all[i:]...)
	}
	scan(t, d, 0, 40, 9, 0)
	scan(t, d, 1, 40, 9, 1)
	scan(t, d, at, 40, 9, at)
}

// P3.1: an entry of another generation is none, behind those of gen, too.
func TestScanGenerations(t *testing.T) {
	d := sector.New(10)
	at := lay(t, d, 0, 10, 3, some(5))
	at = lay(t, d, at, 10, 4, some(6))
	lay(t, d, at, 10, 3, some(7))
	scan(t, d, 0, 10, 3, 2, some(5))
	scan(t, d, 2, 10, 4, 4, some(6))
	scan(t, d, 4, 10, 3, 6, some(7))
	for _, gen := range []int{0, 1, 2, 4, 5, 3 + 1<<8, 3 + 1<<24, math.MaxInt32} {
		scan(t, d, 0, 10, gen, 0)
	}
}

// P3.1: a gen that Lay would refuse has no entries, not even where four bytes would be alike.
func TestScanWrongGenerations(t *testing.T) {
	for stored, gens := range map[uint32][]int{
		0:             {1 << 32, -1 << 32, math.MinInt},
		3:             {3 + 1<<32, 3 - 1<<32, 3 + 1<<40},
		1 << 31:       {1 << 31, -1 << 31},
		math.MaxInt32: {math.MaxInt32 + 1<<32},
		1<<32 - 1:     {-1, 1<<32 - 1, math.MaxInt},
	} {
		d := disk(t, 4, 1, image(stored, some(9)))
		for _, gen := range gens {
			scan(t, d, 1, 4, gen, 1)
		}
	}
}

// P3.1: sectors of 0 are no entry, of generation 0 neither.
func TestScanNothing(t *testing.T) {
	d := sector.New(5)
	for _, gen := range []int{0, 1, math.MaxInt32} {
		for at := range 6 {
			scan(t, d, at, 5, gen, at)
		}
	}
	scan(t, sector.New(0), 0, 5, 0, 0)
	scan(t, new(sector.Disk), 0, 5, 0, 0)
}

// P3.1, R1: sectors that there are not.
func TestScanEnds(t *testing.T) {
	d := sector.New(4)
	lay(t, d, 0, 4, 1, some(64))
	lay(t, d, 2, 4, 1, some(64))
	for _, at := range []int{math.MinInt, -2, -1, 4, 5, math.MaxInt} {
		for _, end := range []int{math.MinInt, -1, 0, 3, 4, 5, math.MaxInt} {
			scan(t, d, at, end, 1, at)
		}
	}
	for _, end := range []int{math.MinInt, -1, 0, 1} {
		scan(t, d, 0, end, 1, 0)
	}
	scan(t, d, 0, 2, 1, 2, some(64))
	scan(t, d, 0, 3, 1, 2, some(64))
	scan(t, d, 0, 4, 1, 4, some(64), some(64))
	scan(t, d, 0, 5, 1, 4, some(64), some(64))
}

// P3.1: each byte counts, in the head and in its bytes, and so do the 0s behind both.
func TestScanEachByteCounts(t *testing.T) {
	for _, n := range []int{0, 1, 64, 70} {
		first, b := some(3), some(n)
		for i := range 64 * Size(n) {
			for _, turn := range []byte{1, 0x80, 0xff} {
				d := sector.New(8)
				at := lay(t, d, 0, 8, 2, first)
				lay(t, d, at, 8, 2, b)
				x, _ := d.Read(at + i/64)
				x[i%64] ^= turn
				d.Write(at+i/64, x)
				scan(t, d, 0, 8, 2, at, first)
			}
		}
	}
}

// P3.1: a head whose length goes beyond the end, however great, is none, though its own sum is right.
func TestScanGreatLengths(t *testing.T) {
	table := crc32.MakeTable(crc32.Castagnoli)
	for _, n := range []uint32{129, 192, 1 << 13, 1 << 16, 1<<31 - 1, 1 << 31, 1<<32 - 64, 1<<32 - 1} {
		h := image(1, nil)[:12]
		binary.BigEndian.PutUint32(h[4:], n)
		h = binary.BigEndian.AppendUint32(h, crc32.Checksum(h, table))
		d := disk(t, 3, 0, h)
		for _, end := range []int{1, 3, 4, math.MaxInt} {
			scan(t, d, 0, end, 1, 0)
		}
	}
}

// P3.1: the words of an entry set no bound to its bytes but the end; MaxRecord is Lay's.
func TestScanLongEntry(t *testing.T) {
	for _, n := range []int{api.MaxRecord + 1, 1023 * 64} {
		d := disk(t, api.MaxSectors, 0, image(1, some(n)))
		scan(t, d, 0, api.MaxSectors, 1, Size(n), some(n))
		scan(t, d, 0, Size(n)-1, 1, 0)
	}
}

// P3.1 and P2.1: what is loose is scanned, too.
func TestScanLoose(t *testing.T) {
	d := sector.New(3)
	lay(t, d, 0, 3, 1, some(5))
	d.Write(1, []byte("other"))
	scan(t, d, 0, 3, 1, 0)
	d.Crash(0, -1, 0)
	scan(t, d, 0, 3, 1, 2, some(5))
}

// P3.1: Scan needs no power, and takes none.
func TestScanWithoutPower(t *testing.T) {
	d := sector.New(3)
	lay(t, d, 0, 3, 1, some(5))
	d.Fuse(1)
	scan(t, d, 0, 3, 1, 2, some(5))
	if e := d.Flush(); e != api.OK {
		t.Errorf("Flush: error %d", e)
	}
	scan(t, d, 0, 3, 1, 2, some(5))
}

// P3.1: the sectors from at up to end, end not; others stay; sectors that there are not are none.
func TestClean(t *testing.T) {
	for _, c := range []struct {
		at, end, first, behind int
	}{
		{0, 6, 0, 6}, {1, 4, 1, 4}, {2, 3, 2, 3}, {5, 6, 5, 6}, {0, 1, 0, 1},
		{2, 2, 0, 0}, {3, 2, 0, 0}, {6, 6, 0, 0}, {0, 0, 0, 0},
		{-3, 2, 0, 2}, {4, 9, 4, 6}, {math.MinInt, math.MaxInt, 0, 6}, {math.MinInt, 1, 0, 1}, {5, math.MaxInt, 5, 6},
		{math.MaxInt, math.MinInt, 0, 0}, {-5, -1, 0, 0}, {6, math.MaxInt, 0, 0}, {math.MaxInt, math.MaxInt, 0, 0},
	} {
		d := filled(t, 6)
		want := lasting(d)
		clear(want[64*c.first : 64*c.behind])
		if e := Clean(d, c.at, c.end); e != api.OK {
			t.Errorf("Clean(%d, %d): error %d", c.at, c.end, e)
		}
		if !bytes.Equal(lasting(d), want) || d.Loose() != 0 {
			t.Errorf("Clean(%d, %d): %x", c.at, c.end, lasting(d))
		}
	}
}

// P3.1: a sector with one byte that is not 0, wherever, is Written; one of 0 is not; then one Flush, if there was one.
func TestCleanWritesWhatItMust(t *testing.T) {
	for i := range 64 {
		d := sector.New(5)
		d.Write(1, append(make([]byte, i), 1))
		d.Write(3, append(make([]byte, i), 0x80))
		d.Flush()
		d.Fuse(3)
		if e := Clean(d, 0, 5); e != api.OK {
			t.Fatalf("byte %d: error %d", i, e)
		}
		if !bytes.Equal(lasting(d), make([]byte, 5*64)) {
			t.Fatalf("byte %d: %x", i, lasting(d))
		}
		if e := d.Flush(); e != api.ErrDown {
			t.Fatalf("byte %d: fewer Writes and Flushes than said", i)
		}
	}
}

// P3.1: where all is 0 there is neither a Write nor a Flush: what is loose elsewhere stays so.
func TestCleanOfNothing(t *testing.T) {
	d := sector.New(4)
	d.Write(3, []byte("loose"))
	d.Fuse(0)
	for _, c := range [][2]int{{0, 3}, {3, 3}, {3, 0}, {4, 9}, {-9, 0}} {
		if e := Clean(d, c[0], c[1]); e != api.OK {
			t.Errorf("Clean(%d, %d): error %d", c[0], c[1], e)
		}
	}
	if d.Loose() != 1 {
		t.Errorf("Loose: %d", d.Loose())
	}
}

// P3.1: without power the first error is told, and what was done ahead of it is done, from at on.
func TestCleanWithoutPower(t *testing.T) {
	for done := range 5 {
		d := filled(t, 5)
		read, last := lasting(d), lasting(d)
		clear(read[64 : 64*(1+min(done, 3))])
		want := api.ErrDown
		if done == 4 {
			want = api.OK
			clear(last[64 : 4*64])
		}
		d.Fuse(done)
		if e := Clean(d, 1, 4); e != want {
			t.Errorf("Fuse(%d): error %d", done, e)
		}
		if !bytes.Equal(reading(d), read) || !bytes.Equal(lasting(d), last) {
			t.Errorf("Fuse(%d): other sectors than said", done)
		}
	}
}

// A nil disk has no sectors (chapter 2): nothing has room there, and nothing is found.
func TestNilDisk(t *testing.T) {
	if next, e := Lay(nil, 0, 9, 1, nil); next != 0 || e != api.ErrFull {
		t.Errorf("Lay: %d, error %d", next, e)
	}
	if next, e := Lay(nil, -1, 9, 1, nil); next != 0 || e != api.ErrArg {
		t.Errorf("Lay: %d, error %d", next, e)
	}
	if e := Clean(nil, 0, 9); e != api.OK {
		t.Errorf("Clean: error %d", e)
	}
	scan(t, nil, 0, 9, 1, 0)
}

// R4: what is handed in stays as it is, spare room included, and is not kept.
func TestWhatIsHandedIn(t *testing.T) {
	for _, n := range []int{0, 5, 64, 100} {
		room := some(300)
		d := sector.New(5)
		lay(t, d, 0, 5, 1, room[:n])
		if !bytes.Equal(room, some(300)) {
			t.Errorf("%d bytes: changed", n)
		}
		clear(room)
		scan(t, d, 0, 5, 1, Size(n), some(n))
	}
}

// R4: what is answered is new memory, room behind each list included.
func TestWhatIsAnswered(t *testing.T) {
	d := sector.New(9)
	at := 0
	for range 3 {
		at = lay(t, d, at, 9, 1, some(70))
	}
	one, _ := Scan(d, 0, 9, 1)
	two, _ := Scan(d, 0, 9, 1)
	lists := append(one, two...)
	for i, b := range lists {
		b = b[:cap(b)]
		for j := range b {
			b[j] = byte(i)
		}
	}
	for i, b := range lists {
		if !bytes.Equal(b, bytes.Repeat([]byte{byte(i)}, 70)) {
			t.Errorf("list %d shares memory", i)
		}
	}
	scan(t, d, 0, 9, 1, 9, some(70), some(70), some(70))
}

// parse tells what Scan must, from all bytes of a disk: it lays each entry that could be there, and looks if it is.
func parse(all []byte, at, end int, gen uint32) ([][]byte, int) {
	var found [][]byte
	for at >= 0 && at < end && 64*at+64 <= len(all) {
		n := int(binary.BigEndian.Uint32(all[64*at+4:]))
		from := 64*at + 64
		if n > len(all)-from || at+1+(n+63)/64 > end {
			break
		}
		b := all[from : from+n]
		if !bytes.HasPrefix(all[64*at:], image(gen, b)) {
			break
		}
		found = append(found, b)
		at += 1 + (n+63)/64
	}
	return found, at
}

// P3.1 as a whole: many calls, with crashes between; behind each, Scan of all there is.
func TestManyCalls(t *testing.T) {
	for seed := range int64(40) {
		r := rand.New(rand.NewSource(seed))
		n := r.Intn(20)
		d := sector.New(n)
		at := 0
		for range 120 {
			switch k := r.Intn(12); {
			case k < 6:
				if next, e := Lay(d, at, n-r.Intn(2), r.Intn(2), some(r.Intn(200))); e == api.OK {
					at = next
				}
			case k < 7:
				Clean(d, r.Intn(n+2)-1, r.Intn(n+3)-1)
			case k < 8:
				d.Write(r.Intn(n+1), some(r.Intn(65)))
			case k < 9:
				d.Fuse(r.Intn(12))
			case k < 11:
				at = r.Intn(n + 1)
			default:
				d.Crash(r.Uint64(), r.Intn(5)-1, r.Intn(65))
			}
			all := reading(d)
			for begin := -1; begin <= n+1; begin++ {
				for gen := range 2 {
					end := r.Intn(n + 3)
					want, behind := parse(all, begin, min(end, n), uint32(gen))
					scan(t, d, begin, end, gen, behind, want...)
				}
			}
			if t.Failed() {
				t.Fatalf("seed %d", seed)
			}
		}
	}
}
