package wal

import (
	"bytes"
	"encoding/binary"
	"fmt"
	"hash/crc32"
	"math"
	"math/rand"
	"testing"

	"interregnum/api"
	"interregnum/region"
	"interregnum/sector"
)

// some answers n bytes, none of them 0, that differ from sector to sector.
func some(n int) []byte {
	b := make([]byte, n)
	for i := range b {
		b[i] = byte(1 + (i+i/64*7)%255)
	}
	return b
}

// super answers a superblock as the chapter's words say, told without the package's own means.
func super(gen uint32) []byte {
	b := binary.BigEndian.AppendUint32(nil, gen)
	b = binary.BigEndian.AppendUint32(b, crc32.Checksum(b, crc32.MakeTable(crc32.Castagnoli)))
	return append(b, make([]byte, 56)...)
}

// entry answers an entry's sectors as chapter 3's words say.
func entry(gen uint32, b []byte) []byte {
	table := crc32.MakeTable(crc32.Castagnoli)
	h := binary.BigEndian.AppendUint32(nil, gen)
	h = binary.BigEndian.AppendUint32(h, uint32(len(b)))
	h = binary.BigEndian.AppendUint32(h, crc32.Checksum(b, table))
	h = binary.BigEndian.AppendUint32(h, crc32.Checksum(h, table))
	h = append(h, make([]byte, 48)...)
	h = append(h, b...)
	for len(h)%64 != 0 {
		h = append(h, 0)
	}
	return h
}

// lasting answers what of all sectors lasts.
func lasting(d *sector.Disk) []byte {
	var all []byte
	for at := range d.Len() {
		b, _ := d.Lasts(at)
		all = append(all, b...)
	}
	return all
}

// reading answers all sectors, with what is loose.
func reading(d *sector.Disk) []byte {
	var all []byte
	for at := range d.Len() {
		b, _ := d.Read(at)
		all = append(all, b...)
	}
	return all
}

// disk answers a disk with these bytes, which last.
func disk(all []byte) *sector.Disk {
	d := sector.New(len(all) / 64)
	for at := range d.Len() {
		d.Write(at, all[64*at:64*at+64])
	}
	d.Flush()
	return d
}

// filled answers the bytes of n sectors without a 0.
func filled(n int) []byte {
	return bytes.Repeat([]byte{0xee}, 64*n)
}

// put copies b to sector at of all.
func put(all []byte, at int, b []byte) {
	copy(all[64*at:], b)
}

// starts answers the sector at which gen's region of n sectors begins, and how many it has.
func starts(n, gen int) (int, int) {
	half := (n - 2) / 2
	if gen%2 == 0 {
		return 2, half
	}
	return 2 + half, half
}

// open opens and wants OK.
func open(t *testing.T, d *sector.Disk) (*Log, [][]byte) {
	t.Helper()
	l, found, e := Open(d)
	if l == nil || e != api.OK {
		t.Fatalf("Open: error %d", e)
	}
	return l, found
}

// try wants the error that a call answered.
func try(t *testing.T, what string, got, want api.Errno) {
	t.Helper()
	if got != want {
		t.Errorf("%s: error %d, want %d", what, got, want)
	}
}

// at wants what Gen and Used tell.
func at(t *testing.T, l *Log, gen, used int) {
	t.Helper()
	if l.Gen() != gen || l.Used() != used {
		t.Errorf("Gen %d, Used %d; want %d, %d", l.Gen(), l.Used(), gen, used)
	}
}

// same tells if two lists have the same bytes.
func same(a, b [][]byte) bool {
	if len(a) != len(b) {
		return false
	}
	for i := range a {
		if !bytes.Equal(a[i], b[i]) {
			return false
		}
	}
	return true
}

// holds wants what Open finds on the disk.
func holds(t *testing.T, d *sector.Disk, gen int, want ...[]byte) *Log {
	t.Helper()
	l, found := open(t, d)
	used := 0
	for _, b := range want {
		used += region.Size(len(b))
	}
	if !same(found, want) {
		t.Errorf("Open: %d entries, want %d: %q", len(found), len(want), found)
	}
	at(t, l, gen, used)
	return l
}

// The chapter's example.
func TestExample(t *testing.T) {
	d := sector.New(8)
	l, _ := open(t, d)
	try(t, "Append", l.Append([]byte("it")), api.OK)
	d.Crash(0, -1, 0)
	holds(t, d, 1, []byte("it"))
}

// A nil *Log: ErrArg, 0. One that no Open made has no disk, and is like it.
func TestNil(t *testing.T) {
	for name, l := range map[string]*Log{"nil": nil, "zero": new(Log)} {
		for _, b := range [][]byte{nil, some(1), some(api.MaxRecord), some(api.MaxRecord + 1)} {
			try(t, name+": Append", l.Append(b), api.ErrArg)
			try(t, name+": Checkpoint", l.Checkpoint(b), api.ErrArg)
			at(t, l, 0, 0)
		}
	}
}

// P4.1: ErrArg of no disk, or of fewer than 4 sectors, ahead of ErrDown; then the log is nil, and nothing is changed.
func TestOpenTooSmall(t *testing.T) {
	disks := []*sector.Disk{nil, new(sector.Disk)}
	for n := range 4 {
		without := disk(filled(n))
		without.Fuse(0)
		disks = append(disks, disk(filled(n)), without)
	}
	for _, d := range disks {
		l, found, e := Open(d)
		if l != nil || len(found) != 0 || e != api.ErrArg {
			t.Errorf("%d sectors: %v, %d entries, error %d", d.Len(), l, len(found), e)
		}
		if !bytes.Equal(lasting(d), filled(d.Len())) || d.Loose() != 0 {
			t.Errorf("%d sectors: changed", d.Len())
		}
	}
}

// P4.1 and its words: where superblocks and regions are, on disks of any length; the odd sector at the end is nobody's.
func TestWhereAllIs(t *testing.T) {
	for _, n := range []int{4, 5, 6, 7, 8, 9, 22, 23, api.MaxSectors - 1, api.MaxSectors} {
		one, half := starts(n, 1)
		b := some(min(64*(half-1), api.MaxRecord))
		want := filled(n)
		put(want, 1, super(1))
		clear(want[64*one : 64*(one+half)])

		d := disk(filled(n))
		l, found := open(t, d)
		if len(found) != 0 || !bytes.Equal(lasting(d), want) || d.Loose() != 0 {
			t.Fatalf("%d sectors: Open: other sectors than said", n)
		}
		at(t, l, 1, 0)

		try(t, "Append", l.Append(b), api.OK)
		put(want, one, entry(1, b))
		if !bytes.Equal(lasting(d), want) || d.Loose() != 0 {
			t.Fatalf("%d sectors: Append: other sectors than said", n)
		}
		at(t, l, 1, region.Size(len(b)))

		try(t, "Checkpoint", l.Checkpoint(b), api.OK)
		clear(want[64*2 : 64*one])
		put(want, 2, entry(2, b))
		put(want, 0, super(2))
		if !bytes.Equal(lasting(d), want) || d.Loose() != 0 {
			t.Fatalf("%d sectors: Checkpoint: other sectors than said", n)
		}
		at(t, l, 2, region.Size(len(b)))

		try(t, "Checkpoint", l.Checkpoint(nil), api.OK)
		clear(want[64*one : 64*(one+half)])
		put(want, one, entry(3, nil))
		put(want, 1, super(3))
		if !bytes.Equal(lasting(d), want) || d.Loose() != 0 {
			t.Fatalf("%d sectors: second Checkpoint: other sectors than said", n)
		}
		holds(t, d, 3, nil)
	}
}

// Words: a superblock's bytes, written out so that nothing is worked out here.
func TestSuperblockKnownBytes(t *testing.T) {
	d := sector.New(4)
	open(t, d)
	b, _ := d.Lasts(1)
	want := append([]byte{0, 0, 0, 1, 0xba, 0x0c, 0xc8, 0xc4}, make([]byte, 56)...)
	if !bytes.Equal(b, want) {
		t.Errorf("superblock: %x", b)
	}
}

// P4.1: on a disk where all is 0 a log is begun by one Write and one Flush, and the second Open needs none.
func TestOpenOfNothing(t *testing.T) {
	for fuse := range 3 {
		d := sector.New(10)
		d.Fuse(fuse)
		l, found, e := Open(d)
		if done := fuse == 2; done != (l != nil) || done != (e == api.OK) || !done && e != api.ErrDown || len(found) != 0 {
			t.Errorf("Fuse(%d): %v, %d entries, error %d", fuse, l, len(found), e)
		}
		if d.Loose() != fuse%2 {
			t.Errorf("Fuse(%d): %d loose", fuse, d.Loose())
		}
	}
	d := sector.New(10)
	open(t, d)
	d.Fuse(0)
	holds(t, d, 1)
}

// P4.1: without a superblock: Clean of region 1 (with its Flush), the superblock, Flush; seen by taking the power behind each.
func TestBeginOrder(t *testing.T) {
	const n, one, half = 9, 5, 3
	for fuse := range half + 4 {
		read, last := filled(n), filled(n)
		clear(read[64*one : 64*(one+min(fuse, half))])
		if fuse > half {
			clear(last[64*one : 64*(one+half)])
		}
		if fuse > half+1 {
			put(read, 1, super(1))
		}
		want := api.ErrDown
		if fuse > half+2 {
			put(last, 1, super(1))
			want = api.OK
		}
		d := disk(filled(n))
		d.Fuse(fuse)
		l, found, e := Open(d)
		if e != want || (l == nil) != (want != api.OK) || len(found) != 0 {
			t.Errorf("Fuse(%d): %v, %d entries, error %d", fuse, l, len(found), e)
		}
		if !bytes.Equal(reading(d), read) || !bytes.Equal(lasting(d), last) {
			t.Errorf("Fuse(%d): other sectors than said", fuse)
		}
		if e == api.OK && d.Flush() != api.ErrDown {
			t.Error("fewer Writes and Flushes than said")
		}
	}
}

// P4.1: which superblock counts; 0 where none does, so that a log is begun.
func TestWhichSuperblockCounts(t *testing.T) {
	none := make([]byte, 64)
	wrongSum := super(6)
	wrongSum[7] ^= 1
	tail := super(6)
	tail[63] = 1
	behind := super(7)
	behind[8] = 1
	turned := append([]byte{}, super(6)[4:8]...)
	turned = append(turned, super(6)[:4]...)
	turned = append(turned, make([]byte, 56)...)
	for name, c := range map[string]struct {
		zero, one []byte
		want      int
	}{
		"none":                      {none, none, 0},
		"filled":                    {filled(1), filled(1), 0},
		"1":                         {none, super(1), 1},
		"2":                         {super(2), none, 2},
		"2, 1":                      {super(2), super(1), 2},
		"2, 3":                      {super(2), super(3), 3},
		"far apart":                 {super(2), super(101), 101},
		"far apart the other way":   {super(500), super(3), 500},
		"gen 0":                     {super(0), none, 0},
		"gen 0 beside 1":            {super(0), super(1), 1},
		"0 at sector 1":             {none, super(0), 0},
		"1 at sector 0":             {super(1), none, 0},
		"2 at sector 1":             {none, super(2), 0},
		"greater at another sector": {super(9), super(3), 3},
		"both at the other's":       {super(9), super(8), 0},
		"a wrong sum":               {wrongSum, super(3), 3},
		"a wrong sum alone":         {wrongSum, none, 0},
		"a byte at the end":         {tail, super(3), 3},
		"a byte behind the sum":     {super(2), behind, 2},
		"sum and gen turned about":  {turned, none, 0},
		"all four bytes count":      {super(0x01020304), super(0x00ffffff), 0x01020304},
		"2^31 - 2":                  {super(math.MaxInt32 - 1), super(1), math.MaxInt32 - 1},
		"2^31 - 1":                  {super(math.MaxInt32 - 1), super(math.MaxInt32), math.MaxInt32},
		"2^31 is no generation":     {super(1 << 31), super(3), 3},
		"2^32 - 1 is none":          {super(4), super(1<<32 - 1), 4},
		"neither is one":            {super(1 << 31), super(1<<31 + 1), 0},
	} {
		all := filled(12)
		put(all, 0, c.zero)
		put(all, 1, c.one)
		gen, want := c.want, bytes.Clone(all)
		if gen == 0 {
			gen = 1
			put(want, 1, super(1))
		}
		from, half := starts(12, gen)
		clear(want[64*from : 64*(from+half)])
		d := disk(all)
		l, found := open(t, d)
		if l.Gen() != gen || l.Used() != 0 || len(found) != 0 {
			t.Errorf("%s: Gen %d, Used %d, %d entries; want %d", name, l.Gen(), l.Used(), len(found), gen)
		}
		if !bytes.Equal(lasting(d), want) {
			t.Errorf("%s: other sectors than said", name)
		}
	}
}

// Words: each byte of a superblock counts; without it the other one does.
func TestEachByteOfASuperblockCounts(t *testing.T) {
	for i := range 64 {
		for _, turn := range []byte{1, 0x80, 0xff} {
			d := sector.New(10)
			l, _ := open(t, d)
			try(t, "Append", l.Append([]byte("old")), api.OK)
			try(t, "Checkpoint", l.Checkpoint([]byte("new")), api.OK)
			b, _ := d.Read(0)
			b[i] ^= turn
			d.Write(0, b)
			d.Flush()
			holds(t, d, 1, []byte("old"))
		}
	}
}

// P4.1: what Scan tells of the region that counts, up to its end; what is behind it is Cleaned, all else stays.
func TestOpenFinds(t *testing.T) {
	for _, n := range []int{20, 21} {
		for gen := 4; gen < 6; gen++ {
			from, half := starts(n, gen)
			all := filled(n)
			put(all, gen%2, super(uint32(gen)))
			put(all, from, entry(uint32(gen), some(70)))
			put(all, from+3, entry(uint32(gen), nil))
			put(all, from+4, entry(uint32(gen), some(64)))
			put(all, from+6, entry(uint32(gen-2), some(1)))
			want := bytes.Clone(all)
			clear(want[64*(from+6) : 64*(from+half)])
			d := disk(all)
			l := holds(t, d, gen, some(70), nil, some(64))
			if !bytes.Equal(lasting(d), want) || d.Loose() != 0 {
				t.Errorf("%d sectors, gen %d: other sectors than said", n, gen)
			}
			try(t, "Append", l.Append(some(100)), api.OK)
			try(t, "Append of one more", l.Append(nil), api.ErrFull)
			holds(t, d, gen, some(70), nil, some(64), some(100))
		}
	}
}

// P4.1: an entry that would go beyond the region is none, though the disk goes on.
func TestOpenKeepsToItsRegion(t *testing.T) {
	all := make([]byte, 64*12)
	put(all, 0, super(2))
	put(all, 2, entry(2, some(60)))
	put(all, 4, entry(2, some(64*3)))
	put(all, 8, entry(2, some(5)))
	want := bytes.Clone(all)
	clear(want[64*4 : 64*7])
	d := disk(all)
	holds(t, d, 2, some(60))
	if !bytes.Equal(lasting(d), want) {
		t.Error("other sectors than said")
	}
}

// P4.1, R3: an error of Open's Clean is told, with nothing beside it; nothing but that Clean is done.
func TestOpenCleanError(t *testing.T) {
	all := filled(12)
	put(all, 1, super(3))
	put(all, 7, entry(3, some(9)))
	for fuse := range 5 {
		read, last := bytes.Clone(all), bytes.Clone(all)
		clear(read[64*9 : 64*(9+min(fuse, 3))])
		want := api.ErrDown
		if fuse == 4 {
			clear(last[64*9:])
			want = api.OK
		}
		d := disk(all)
		d.Fuse(fuse)
		l, found, e := Open(d)
		if e != want || (l == nil) != (e != api.OK) || len(found) != int(1-min(e, 1)) {
			t.Errorf("Fuse(%d): %v, %d entries, error %d", fuse, l, len(found), e)
		}
		if !bytes.Equal(reading(d), read) || !bytes.Equal(lasting(d), last) {
			t.Errorf("Fuse(%d): other sectors than said", fuse)
		}
	}
}

// P4.1, R2, R6: Append's errors change nothing, and the log goes on behind ErrArg and ErrFull.
func TestAppendRefused(t *testing.T) {
	d := sector.New(14)
	l, _ := open(t, d)
	try(t, "Append", l.Append(some(64)), api.OK)
	before := reading(d)
	for _, n := range []int{api.MaxRecord + 1, 2 * api.MaxRecord} {
		try(t, "too many bytes", l.Append(some(n)), api.ErrArg)
	}
	for _, n := range []int{64*3 + 1, 1000, api.MaxRecord} {
		try(t, "no room", l.Append(some(n)), api.ErrFull)
	}
	at(t, l, 1, 2)
	if !bytes.Equal(reading(d), before) || d.Loose() != 0 {
		t.Error("changed")
	}
	d.Fuse(0)
	try(t, "too many bytes, without power", l.Append(some(api.MaxRecord+1)), api.ErrArg)
	try(t, "no room, without power", l.Append(some(64*4)), api.ErrFull)
	d.Crash(0, -1, 0)
	try(t, "Append that fits just so", l.Append(some(64*3)), api.OK)
	at(t, l, 1, 6)
	try(t, "Append to a full region", l.Append(nil), api.ErrFull)
	holds(t, d, 1, some(64), some(64*3))
}

// P4.1: a region of one sector takes an entry without bytes, and no more.
func TestSmallest(t *testing.T) {
	for _, n := range []int{4, 5} {
		d := sector.New(n)
		l, _ := open(t, d)
		try(t, "Append of a byte", l.Append(some(1)), api.ErrFull)
		try(t, "Checkpoint of a byte", l.Checkpoint(some(1)), api.ErrFull)
		try(t, "Append", l.Append(nil), api.OK)
		at(t, l, 1, 1)
		try(t, "Append once more", l.Append(nil), api.ErrFull)
		try(t, "Checkpoint", l.Checkpoint(nil), api.OK)
		at(t, l, 2, 1)
		holds(t, d, 2, nil)
	}
}

// P4.1: Append is Lay: its bytes, Flush, head, Flush; and on ErrDown Gen and Used stay.
func TestAppendOrder(t *testing.T) {
	const n, from = 14, 8
	b := some(100)
	whole := entry(1, b)
	for fuse := range 6 {
		d := sector.New(n)
		l, _ := open(t, d)
		try(t, "Append", l.Append(some(3)), api.OK)
		read, last := reading(d), reading(d)
		put(read, from+3, whole[64:64*(1+min(fuse, 2))])
		if fuse > 2 {
			put(last, from+3, whole[64:])
		}
		if fuse > 3 {
			put(read, from+2, whole[:64])
		}
		want, used := api.ErrDown, 2
		if fuse > 4 {
			put(last, from+2, whole[:64])
			want, used = api.OK, 5
		}
		d.Fuse(fuse)
		try(t, fmt.Sprintf("Fuse(%d)", fuse), l.Append(b), want)
		at(t, l, 1, used)
		if !bytes.Equal(reading(d), read) || !bytes.Equal(lasting(d), last) {
			t.Errorf("Fuse(%d): other sectors than said", fuse)
		}
	}
}

// P4.1, R2, R6: Checkpoint's errors, each ahead of the next, change nothing; the log goes on.
func TestCheckpointRefused(t *testing.T) {
	all := filled(14)
	put(all, 1, super(1))
	put(all, 8, entry(1, some(1)))
	d := disk(all)
	l := holds(t, d, 1, some(1))
	before := reading(d)
	for _, power := range []bool{true, false} {
		if !power {
			d.Fuse(0)
		}
		for _, n := range []int{api.MaxRecord + 1, 2 * api.MaxRecord} {
			try(t, "too many bytes", l.Checkpoint(some(n)), api.ErrArg)
		}
		for _, n := range []int{64*5 + 1, 1000, api.MaxRecord} {
			try(t, "no room", l.Checkpoint(some(n)), api.ErrFull)
		}
		at(t, l, 1, 2)
		if !bytes.Equal(reading(d), before) || d.Loose() != 0 {
			t.Error("changed")
		}
	}
	d.Crash(0, -1, 0)
	try(t, "Checkpoint that fits just so", l.Checkpoint(some(64*5)), api.OK)
	at(t, l, 2, 6)
	holds(t, d, 2, some(64*5))
}

// P4.1: the entry of MaxRecord bytes has room where a region has its 129 sectors, and none with one fewer.
func TestGreatestEntry(t *testing.T) {
	for n, want := range map[int]api.Errno{2 + 2*129: api.OK, 2 + 2*129 - 1: api.ErrFull} {
		l, _ := open(t, sector.New(n))
		try(t, "Append", l.Append(some(api.MaxRecord)), want)
		try(t, "Checkpoint", l.Checkpoint(some(api.MaxRecord)), want)
	}
}

// P4.1: ErrFull at gen 2^31 - 1, however small the entry; Append goes on.
func TestLastGeneration(t *testing.T) {
	all := make([]byte, 64*20)
	put(all, 0, super(math.MaxInt32-1))
	d := disk(all)
	l := holds(t, d, math.MaxInt32-1)
	try(t, "Append", l.Append([]byte("a")), api.OK)
	try(t, "Checkpoint to the last", l.Checkpoint([]byte("b")), api.OK)
	at(t, l, math.MaxInt32, 2)
	before := reading(d)
	for _, b := range [][]byte{nil, some(1), some(10000)} {
		want := api.ErrFull
		if len(b) > api.MaxRecord {
			want = api.ErrArg
		}
		try(t, "Checkpoint behind the last", l.Checkpoint(b), want)
	}
	if !bytes.Equal(reading(d), before) || d.Loose() != 0 {
		t.Error("changed")
	}
	try(t, "Append", l.Append([]byte("c")), api.OK)
	l = holds(t, d, math.MaxInt32, []byte("b"), []byte("c"))
	try(t, "Checkpoint behind Open", l.Checkpoint(nil), api.ErrFull)
}

// P4.1: Checkpoint is Clean of the other region, Lay of the next gen, its superblock, Flush; and on ErrDown Gen and Used stay.
func TestCheckpointOrder(t *testing.T) {
	const n = 13
	b := some(64)
	whole := entry(4, b)
	all := filled(n)
	put(all, 0, super(2))
	put(all, 1, super(3))
	put(all, 7, entry(3, some(9)))
	clear(all[64*9 : 64*12])
	for fuse := range 13 {
		read, last := bytes.Clone(all), bytes.Clone(all)
		clear(read[64*2 : 64*(2+min(fuse, 5))])
		if fuse > 5 {
			clear(last[64*2 : 64*7])
		}
		for i, what := range []struct {
			at int
			b  []byte
		}{{3, whole[64:]}, {2, whole[:64]}, {0, super(4)}} {
			if fuse > 6+2*i {
				put(read, what.at, what.b)
			}
			if fuse > 7+2*i {
				put(last, what.at, what.b)
			}
		}
		want, gen, used := api.ErrDown, 3, 2
		if fuse == 12 {
			want, gen, used = api.OK, 4, 2
		}
		d := disk(all)
		l := holds(t, d, 3, some(9))
		d.Fuse(fuse)
		try(t, fmt.Sprintf("Fuse(%d)", fuse), l.Checkpoint(b), want)
		at(t, l, gen, used)
		if !bytes.Equal(reading(d), read) || !bytes.Equal(lasting(d), last) {
			t.Errorf("Fuse(%d): other sectors than said", fuse)
		}
		if want == api.OK && d.Flush() != api.ErrDown {
			t.Error("fewer Writes and Flushes than said")
		}
	}
}

// P4.1: beside ErrDown all else answers ErrDown, also where the disk has power again, or the argument is wrong; till Open.
func TestDownTillOpen(t *testing.T) {
	calls := map[string]func(*Log, []byte) api.Errno{"Append": (*Log).Append, "Checkpoint": (*Log).Checkpoint}
	for name, call := range calls {
		for fuse := range 4 {
			d := sector.New(14)
			l, _ := open(t, d)
			try(t, "Append", l.Append([]byte("old")), api.OK)
			d.Fuse(fuse)
			try(t, name, call(l, []byte("new")), api.ErrDown)
			for _, power := range []bool{false, true} {
				if power {
					d.Crash(0, -1, 0)
				}
				before, loose := reading(d), d.Loose()
				for other, call := range calls {
					for _, n := range []int{0, 1, 1000, api.MaxRecord, api.MaxRecord + 1} {
						what := fmt.Sprintf("Fuse(%d), %s, then %s of %d bytes", fuse, name, other, n)
						try(t, what, call(l, some(n)), api.ErrDown)
					}
				}
				at(t, l, 1, 2)
				if !bytes.Equal(reading(d), before) || d.Loose() != loose {
					t.Errorf("Fuse(%d), %s: changed", fuse, name)
				}
			}
			again := holds(t, d, 1, []byte("old"))
			try(t, "Append behind Open", again.Append([]byte("more")), api.OK)
			holds(t, d, 1, []byte("old"), []byte("more"))
			try(t, "Append of the old log", l.Append(nil), api.ErrDown)
		}
	}
}

// tears are places at which a Write may be torn: in a superblock's gen and sum, in a head's numbers, and at a sector's ends.
func tears() []int {
	return []int{0, 1, 3, 4, 5, 7, 8, 11, 12, 15, 16, 63, 64}
}

// crashed calls f behind each way in which a crash of this disk, whose bytes start lasted, may land.
func crashed(start []byte, do func(*sector.Disk), f func(d *sector.Disk, how string)) {
	probe := disk(start)
	do(probe)
	loose := probe.Loose()
	for keep := range uint64(1) << min(loose, 4) {
		keep |= keep<<4 | keep<<8 // what is beyond the fourth goes by it, too
		for torn := -1; torn < loose; torn++ {
			for _, at := range tears() {
				d := disk(start)
				do(d)
				d.Crash(keep, torn, at)
				f(d, fmt.Sprintf("Crash(%d, %d, %d)", keep, torn, at))
				if torn < 0 {
					break
				}
			}
		}
	}
}

// P4.1 with P2.2: wherever the power goes in a call, whatever lands: behind it Open finds what was there ahead of the call, or what is to be behind it; and again the same.
func TestCrashInACall(t *testing.T) {
	old := [][]byte{some(70), []byte("two")}
	start := sector.New(19)
	l, _ := open(t, start)
	l.Checkpoint(some(300))
	l.Checkpoint(old[0])
	l.Append(old[1])
	for name, c := range map[string]struct {
		call  func(*Log) api.Errno
		gen   int
		found [][]byte
	}{
		"Append":     {func(l *Log) api.Errno { return l.Append(some(130)) }, 3, append(old[:2:2], some(130))},
		"Checkpoint": {func(l *Log) api.Errno { return l.Checkpoint(some(130)) }, 4, [][]byte{some(130)}},
	} {
		for fuse := range 16 {
			var e api.Errno
			do := func(d *sector.Disk) {
				l, _ := open(t, d)
				d.Fuse(fuse)
				e = c.call(l)
			}
			crashed(lasting(start), do, func(d *sector.Disk, how string) {
				how = fmt.Sprintf("%s, Fuse(%d), %s", name, fuse, how)
				l, found := open(t, d)
				done := l.Gen() == c.gen && same(found, c.found)
				not := l.Gen() == 3 && same(found, old)
				if !done && !not || e == api.OK && !done {
					t.Fatalf("%s: Gen %d, %d entries", how, l.Gen(), len(found))
				}
				d.Crash(0, -1, 0)
				holds(t, d, l.Gen(), found...)
				goesOn(t, d, found)
				if t.Failed() {
					t.Fatal(how)
				}
			})
		}
	}
}

// goesOn wants that a log with these entries takes one more, and a Checkpoint.
func goesOn(t *testing.T, d *sector.Disk, found [][]byte) {
	t.Helper()
	l, _ := open(t, d)
	gen := l.Gen()
	if e := l.Append([]byte("more")); e == api.OK {
		found = append(found[:len(found):len(found)], []byte("more"))
	} else {
		try(t, "Append", e, api.ErrFull)
	}
	holds(t, d, gen, found...)
	try(t, "Checkpoint", l.Checkpoint([]byte("all")), api.OK)
	holds(t, d, gen+1, []byte("all"))
}

// P4.1 with P2.2: the power goes while Open cleans up or begins; the next Open finds what the first one would have.
func TestCrashInOpen(t *testing.T) {
	left := make([]byte, 64*12)
	put(left, 0, super(4))
	put(left, 1, super(3))
	put(left, 2, entry(4, []byte("one")))
	put(left, 4, filled(1))
	put(left, 5, entry(4, []byte("no longer"))) // what a crash may leave: a whole entry behind one that is none
	put(left, 7, entry(3, []byte("older")))
	begun := filled(12)
	put(begun, 7, entry(1, []byte("never was")))
	for name, c := range map[string]struct {
		start []byte
		gen   int
		found [][]byte
	}{
		"cleans": {left, 4, [][]byte{[]byte("one")}},
		"begins": {begun, 1, nil},
	} {
		for fuse := range 10 {
			do := func(d *sector.Disk) {
				d.Fuse(fuse)
				Open(d)
			}
			crashed(c.start, do, func(d *sector.Disk, how string) {
				holds(t, d, c.gen, c.found...)
				goesOn(t, d, c.found)
				if t.Failed() {
					t.Fatalf("%s, Fuse(%d), %s", name, fuse, how)
				}
			})
		}
	}
}

// R4: what is handed in stays as it is, spare room included, and is not kept.
func TestWhatIsHandedIn(t *testing.T) {
	for _, n := range []int{0, 5, 64, 100} {
		room := some(300)
		d := sector.New(14)
		l, _ := open(t, d)
		try(t, "Checkpoint", l.Checkpoint(room[:n]), api.OK)
		try(t, "Append", l.Append(room[:n]), api.OK)
		if !bytes.Equal(room, some(300)) {
			t.Errorf("%d bytes: changed", n)
		}
		clear(room)
		holds(t, d, 2, some(n), some(n))
	}
}

// R4: what is answered is new memory, room behind each list included.
func TestWhatIsAnswered(t *testing.T) {
	d := sector.New(20)
	l, _ := open(t, d)
	for range 3 {
		try(t, "Append", l.Append(some(70)), api.OK)
	}
	_, one := open(t, d)
	_, two := open(t, d)
	lists := append(one, two...)
	for i, b := range lists {
		b = b[:cap(b)]
		for j := range b {
			b[j] = byte(i)
		}
	}
	for i, b := range lists {
		if !bytes.Equal(b, bytes.Repeat([]byte{byte(i)}, 70)) {
			t.Errorf("list %d shares memory", i)
		}
	}
	holds(t, d, 1, some(70), some(70), some(70))
}

// R5: two logs on two disks have nothing in common.
func TestTwoLogs(t *testing.T) {
	a, b := sector.New(10), sector.New(12)
	x, _ := open(t, a)
	y, _ := open(t, b)
	a.Fuse(0)
	try(t, "Append", x.Append(nil), api.ErrDown)
	try(t, "Append of the other", y.Append([]byte("y")), api.OK)
	try(t, "Checkpoint of the other", y.Checkpoint([]byte("z")), api.OK)
	at(t, x, 1, 0)
	at(t, y, 2, 2)
}

// twin is a log told by the chapter's sentences one by one, on a disk of its own.
type twin struct {
	d         *sector.Disk
	gen, used int
	down      bool
}

func (w *twin) clean(gen, behind int) api.Errno {
	from, half := starts(w.d.Len(), gen)
	return region.Clean(w.d, from+behind, from+half)
}

func (w *twin) mark(gen int) api.Errno {
	e := w.d.Write(gen%2, super(uint32(gen)))
	if e == api.OK {
		e = w.d.Flush()
	}
	return e
}

func (w *twin) open() ([][]byte, api.Errno) {
	gen := 0
	for i := range 2 {
		b, _ := w.d.Read(i)
		if g := binary.BigEndian.Uint32(b); bytes.Equal(b, super(g)) && int(g)%2 == i && int(g) > gen {
			gen = int(g)
		}
	}
	if gen == 0 {
		gen = 1
		if e := w.clean(1, 0); e != api.OK {
			return nil, e
		}
		if e := w.mark(1); e != api.OK {
			return nil, e
		}
	}
	from, half := starts(w.d.Len(), gen)
	found, behind := region.Scan(w.d, from, from+half, gen)
	if e := w.clean(gen, behind-from); e != api.OK {
		return nil, e
	}
	w.gen, w.used, w.down = gen, behind-from, false
	return found, api.OK
}

func (w *twin) add(b []byte) api.Errno {
	if w.down {
		return api.ErrDown
	}
	from, half := starts(w.d.Len(), w.gen)
	behind, e := region.Lay(w.d, from+w.used, from+half, w.gen, b)
	if e == api.OK {
		w.used = behind - from
	}
	w.down = e == api.ErrDown
	return e
}

func (w *twin) checkpoint(b []byte) api.Errno {
	from, half := starts(w.d.Len(), w.gen+1)
	switch {
	case w.down:
		return api.ErrDown
	case len(b) > api.MaxRecord:
		return api.ErrArg
	case 1+(len(b)+63)/64 > half:
		return api.ErrFull
	}
	e := w.clean(w.gen+1, 0)
	if e == api.OK {
		_, e = region.Lay(w.d, from, from+half, w.gen+1, b)
	}
	if e == api.OK {
		e = w.mark(w.gen + 1)
	}
	if e == api.OK {
		w.gen, w.used = w.gen+1, 1+(len(b)+63)/64
	}
	w.down = e == api.ErrDown
	return e
}

// P4.1 as a whole: many calls with fuses, crashes and foreign Writes between; behind each, both disks and both logs are the same.
func TestManyCalls(t *testing.T) {
	for seed := range int64(150) {
		r := rand.New(rand.NewSource(seed))
		n := 4 + r.Intn(20)
		d, w := sector.New(n), &twin{d: sector.New(n)}
		l, _ := open(t, d)
		w.open()
		for i := range 150 {
			var got, want api.Errno
			b := some(r.Intn(150))
			switch k := r.Intn(20); {
			case k < 8:
				got, want = l.Append(b), w.add(b)
			case k < 11:
				got, want = l.Checkpoint(b), w.checkpoint(b)
			case k < 12:
				long := some(api.MaxRecord + r.Intn(2))
				got, want = l.Checkpoint(long), w.checkpoint(long)
			case k < 13:
				place := r.Intn(n)
				d.Write(place, b[:min(len(b), 64)])
				w.d.Write(place, b[:min(len(b), 64)])
			case k < 15:
				fuse := r.Intn(20)
				d.Fuse(fuse)
				w.d.Fuse(fuse)
			default:
				if r.Intn(3) > 0 {
					keep, torn, place := r.Uint64(), r.Intn(5)-1, r.Intn(65)
					d.Crash(keep, torn, place)
					w.d.Crash(keep, torn, place)
				}
				var mine *Log
				var found, others [][]byte
				mine, found, got = Open(d)
				others, want = w.open()
				if mine != nil {
					l = mine
				}
				if !same(found, others) || (mine == nil) != (got != api.OK) {
					t.Fatalf("seed %d, call %d: %d entries, want %d", seed, i, len(found), len(others))
				}
			}
			if got != want || l.Gen() != w.gen || l.Used() != w.used {
				t.Fatalf("seed %d, call %d: error %d, want %d; Gen %d, want %d; Used %d, want %d", seed, i, got, want, l.Gen(), w.gen, l.Used(), w.used)
			}
			if !bytes.Equal(reading(d), reading(w.d)) || !bytes.Equal(lasting(d), lasting(w.d)) || d.Loose() != w.d.Loose() {
				t.Fatalf("seed %d, call %d: other sectors than said", seed, i)
			}
		}
	}
}
