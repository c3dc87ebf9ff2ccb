package sector

import (
	"bytes"
	"fmt"
	"math"
	"math/rand"
	"strings"
	"testing"

	"interregnum/api"
)

// full answers a sector's bytes: b, filled up with 0.
func full(b string) string {
	return b + strings.Repeat("\x00", api.SectorLen-len(b))
}

// line answers a whole sector of one byte.
func line(c string) string {
	return strings.Repeat(c, api.SectorLen)
}

// put writes and wants OK.
func put(t *testing.T, d *Disk, at int, b string) {
	t.Helper()
	if e := d.Write(at, []byte(b)); e != api.OK {
		t.Fatalf("Write(%d, %q): error %d", at, b, e)
	}
}

// flush flushes and wants OK.
func flush(t *testing.T, d *Disk) {
	t.Helper()
	if e := d.Flush(); e != api.OK {
		t.Fatalf("Flush: error %d", e)
	}
}

// see wants what Read and Lasts tell of sector at.
func see(t *testing.T, d *Disk, at int, read, lasts string) {
	t.Helper()
	if b, e := d.Read(at); e != api.OK || string(b) != full(read) {
		t.Errorf("Read(%d): %q, error %d, want %q", at, b, e, full(read))
	}
	if b, e := d.Lasts(at); e != api.OK || string(b) != full(lasts) {
		t.Errorf("Lasts(%d): %q, error %d, want %q", at, b, e, full(lasts))
	}
}

func loose(t *testing.T, d *Disk, want int) {
	t.Helper()
	if got := d.Loose(); got != want {
		t.Errorf("Loose: %d, want %d", got, want)
	}
}

// The chapter's example.
func TestExample(t *testing.T) {
	d := New(1)
	put(t, d, 0, "abcdef")
	d.Crash(0, 0, 3)
	see(t, d, 0, "abc", "abc")
}

func TestNil(t *testing.T) {
	var d *Disk
	if d.Len() != 0 || d.Loose() != 0 {
		t.Error("Len, Loose")
	}
	for _, at := range []int{math.MinInt, -1, 0, 1, math.MaxInt} {
		if e := d.Write(at, []byte("x")); e != api.ErrArg {
			t.Errorf("Write(%d): error %d", at, e)
		}
		if b, e := d.Read(at); len(b) != 0 || e != api.ErrArg {
			t.Errorf("Read(%d): %q, error %d", at, b, e)
		}
		if b, e := d.Lasts(at); len(b) != 0 || e != api.ErrArg {
			t.Errorf("Lasts(%d): %q, error %d", at, b, e)
		}
	}
	if e := d.Flush(); e != api.ErrArg {
		t.Errorf("Flush: error %d", e)
	}
	d.Fuse(3)
	d.Crash(math.MaxUint64, 0, 1)
	if e := d.Flush(); e != api.ErrArg {
		t.Errorf("Flush behind Fuse and Crash: error %d", e)
	}
}

// P2.1: so many sectors, the ends beyond, all 0.
func TestNew(t *testing.T) {
	for _, c := range []struct{ n, want int }{
		{0, 0}, {1, 1}, {2, 2}, {63, 63}, {1023, 1023}, {1024, 1024},
		{-1, 0}, {math.MinInt, 0}, {1025, 1024}, {math.MaxInt, 1024},
	} {
		d := New(c.n)
		if d == nil || d.Len() != c.want || d.Loose() != 0 {
			t.Fatalf("New(%d): %d sectors, %d loose", c.n, d.Len(), d.Loose())
		}
		for at := range c.want {
			see(t, d, at, "", "")
		}
	}
}

// A disk without sectors has nothing to write, but power.
func TestNoSectors(t *testing.T) {
	for name, d := range map[string]*Disk{"New(0)": New(0), "zero": new(Disk)} {
		if e := d.Write(0, nil); e != api.ErrArg {
			t.Errorf("%s: Write: error %d", name, e)
		}
		if _, e := d.Read(0); e != api.ErrArg {
			t.Errorf("%s: Read: error %d", name, e)
		}
		if d.Len() != 0 || d.Flush() != api.OK {
			t.Errorf("%s: Len, Flush", name)
		}
		d.Fuse(1)
		if a, b := d.Flush(), d.Flush(); a != api.OK || b != api.ErrDown {
			t.Errorf("%s: Flush by a fuse: errors %d, %d", name, a, b)
		}
		d.Crash(1, 0, 1)
		if e := d.Flush(); e != api.OK {
			t.Errorf("%s: Flush behind a crash: error %d", name, e)
		}
	}
}

// P2.1: which sectors there are not.
func TestSectorsThatAreNot(t *testing.T) {
	for _, n := range []int{0, 1, 5, api.MaxSectors} {
		d := New(n)
		for _, at := range []int{math.MinInt, -1, n, n + 1, math.MaxInt} {
			if e := d.Write(at, []byte("x")); e != api.ErrArg {
				t.Errorf("%d sectors: Write(%d): error %d", n, at, e)
			}
			if b, e := d.Read(at); len(b) != 0 || e != api.ErrArg {
				t.Errorf("%d sectors: Read(%d): %q, error %d", n, at, b, e)
			}
			if b, e := d.Lasts(at); len(b) != 0 || e != api.ErrArg {
				t.Errorf("%d sectors: Lasts(%d): %q, error %d", n, at, b, e)
			}
		}
		loose(t, d, 0)
	}
}

// P2.1: a Write fills up with 0, over what was there; the sectors beside it stay.
func TestWrite(t *testing.T) {
	d := New(3)
	for i, b := range []string{line("a"), "bc", "", "d", line("e")[1:], line("f")} {
		put(t, d, 1, b)
		see(t, d, 1, b, "")
		see(t, d, 0, "", "")
		see(t, d, 2, "", "")
		loose(t, d, i+1)
	}
	if e := d.Write(1, nil); e != api.OK {
		t.Errorf("Write of nil: error %d", e)
	}
	see(t, d, 1, "", "")
	loose(t, d, 7)
}

// P2.1: the ends of a disk are sectors like the others.
func TestFirstAndLastSector(t *testing.T) {
	d := New(api.MaxSectors)
	put(t, d, 0, "first")
	put(t, d, api.MaxSectors-1, "last")
	flush(t, d)
	see(t, d, 0, "first", "first")
	see(t, d, api.MaxSectors-1, "last", "last")
	for at := 1; at < api.MaxSectors-1; at++ {
		see(t, d, at, "", "")
	}
}

// P2.1 and R6: a Write that is refused changes nothing.
func TestWriteRefused(t *testing.T) {
	d := New(2)
	put(t, d, 0, "old")
	for _, n := range []int{api.SectorLen + 1, api.SectorLen + 2, 2 * api.SectorLen, 1 << 16} {
		if e := d.Write(0, make([]byte, n)); e != api.ErrArg {
			t.Errorf("Write of %d bytes: error %d", n, e)
		}
	}
	if e := d.Write(2, []byte("x")); e != api.ErrArg {
		t.Errorf("Write beyond: error %d", e)
	}
	see(t, d, 0, "old", "")
	see(t, d, 1, "", "")
	loose(t, d, 1)
}

// P2.1: Flush makes all last, and nothing is loose.
func TestFlush(t *testing.T) {
	d := New(3)
	flush(t, d)
	put(t, d, 0, "a")
	put(t, d, 2, "b")
	put(t, d, 0, "c")
	loose(t, d, 3)
	see(t, d, 0, "c", "")
	see(t, d, 2, "b", "")
	flush(t, d)
	loose(t, d, 0)
	see(t, d, 0, "c", "c")
	see(t, d, 1, "", "")
	see(t, d, 2, "b", "b")
	put(t, d, 2, "")
	loose(t, d, 1)
	see(t, d, 2, "", "b")
	flush(t, d)
	flush(t, d)
	see(t, d, 2, "", "")
	d.Crash(0, 0, 0)
	see(t, d, 0, "c", "c")
}

// P2.2: so many Writes and Flushes are done yet, in any order.
func TestFuse(t *testing.T) {
	for n := range 6 {
		for first := range 3 {
			d := New(2)
			put(t, d, 1, "old")
			flush(t, d)
			d.Fuse(n)
			wantLoose := 0
			for i := range n {
				if (i+first)%3 == 0 {
					flush(t, d)
					wantLoose = 0
					continue
				}
				put(t, d, 0, "new")
				wantLoose++
			}
			before, _ := d.Lasts(0)
			for range 3 {
				if e := d.Write(1, []byte("x")); e != api.ErrDown {
					t.Fatalf("Fuse(%d): Write: error %d", n, e)
				}
				if e := d.Flush(); e != api.ErrDown {
					t.Fatalf("Fuse(%d): Flush: error %d", n, e)
				}
			}
			loose(t, d, wantLoose)
			see(t, d, 1, "old", "old")
			if after, _ := d.Lasts(0); !bytes.Equal(before, after) {
				t.Errorf("Fuse(%d): a Flush was done: %q", n, after)
			}
		}
	}
}

// P2.2: below 0 is 0, and a great number is as many as it says.
func TestFuseEnds(t *testing.T) {
	for _, n := range []int{-1, -64, math.MinInt} {
		d := New(1)
		d.Fuse(n)
		if e := d.Flush(); e != api.ErrDown {
			t.Errorf("Fuse(%d): Flush: error %d", n, e)
		}
		if e := d.Write(0, nil); e != api.ErrDown {
			t.Errorf("Fuse(%d): Write: error %d", n, e)
		}
		loose(t, d, 0)
	}
	d := New(1)
	d.Fuse(math.MaxInt)
	for range 5000 {
		put(t, d, 0, "a")
		flush(t, d)
	}
}

// P2.2: only those that answer OK count, and R2: ErrArg is told ahead of ErrDown.
func TestFuseCountsWhatIsDone(t *testing.T) {
	wrong := func(d *Disk) {
		t.Helper()
		for range 5 {
			if d.Write(-1, nil) != api.ErrArg || d.Write(1, nil) != api.ErrArg || d.Write(0, make([]byte, 65)) != api.ErrArg {
				t.Error("a wrong Write answers something else")
			}
		}
	}
	d := New(1)
	d.Fuse(2)
	wrong(d)
	put(t, d, 0, "a")
	wrong(d)
	d.Read(0)
	d.Lasts(0)
	d.Loose()
	d.Len()
	flush(t, d)
	wrong(d)
	if e := d.Write(0, nil); e != api.ErrDown {
		t.Errorf("Write: error %d", e)
	}
	wrong(d)
	see(t, d, 0, "a", "a")
}

// P2.2: without power all can be read yet, what is loose included.
func TestReadWithoutPower(t *testing.T) {
	d := New(2)
	put(t, d, 0, "a")
	flush(t, d)
	d.Fuse(1)
	put(t, d, 0, "b")
	if e := d.Flush(); e != api.ErrDown {
		t.Errorf("Flush: error %d", e)
	}
	see(t, d, 0, "b", "a")
	see(t, d, 1, "", "")
	loose(t, d, 1)
	if d.Len() != 2 {
		t.Errorf("Len: %d", d.Len())
	}
	if _, e := d.Read(2); e != api.ErrArg {
		t.Errorf("Read(2): error %d", e)
	}
}

// down wants that neither a Write nor a Flush is done.
func down(t *testing.T, d *Disk, when string) {
	t.Helper()
	before := d.Loose()
	if e := d.Write(0, []byte("x")); e != api.ErrDown {
		t.Errorf("%s: Write: error %d", when, e)
	}
	if e := d.Flush(); e != api.ErrDown {
		t.Errorf("%s: Flush: error %d", when, e)
	}
	loose(t, d, before)
}

// P2.2: as long as nothing was refused, the last Fuse counts, whatever was left of the one ahead of it.
func TestFuseAnew(t *testing.T) {
	for _, c := range []struct {
		first, done, second int
	}{
		{5, 0, 1}, {5, 2, 1}, {5, 5, 2}, {0, 0, 1}, {0, 0, 3}, {1, 1, 4}, {3, 1, 0}, {3, 3, -1}, {-1, 0, 2},
	} {
		d := New(1)
		d.Fuse(c.first)
		for range c.done {
			flush(t, d)
		}
		d.Fuse(c.second)
		for range c.second {
			put(t, d, 0, "a")
		}
		loose(t, d, max(c.second, 0))
		down(t, d, fmt.Sprint(c))
	}
}

// P2.2: behind the first Write or Flush that was refused all are, whatever Fuse comes, till a Crash.
func TestPowerStaysGone(t *testing.T) {
	for name, refused := range map[string]func(*Disk) api.Errno{
		"Write": func(d *Disk) api.Errno { return d.Write(0, []byte("x")) },
		"Flush": func(d *Disk) api.Errno { return d.Flush() },
	} {
		for _, first := range []int{-1, 0, 1, 2} {
			d := New(1)
			d.Fuse(first)
			for range first {
				put(t, d, 0, "a")
			}
			if e := refused(d); e != api.ErrDown {
				t.Errorf("Fuse(%d): %s: error %d", first, name, e)
			}
			for _, n := range []int{1, 5, 0, math.MaxInt, -1, 1} {
				d.Fuse(n)
				down(t, d, fmt.Sprintf("Fuse(%d), %s refused, Fuse(%d)", first, name, n))
			}
			loose(t, d, max(first, 0))
			d.Crash(0, -1, 0)
			see(t, d, 0, "", "")
			d.Fuse(2)
			put(t, d, 0, "b")
			flush(t, d)
			down(t, d, "a fuse behind the Crash")
			see(t, d, 0, "b", "b")
		}
	}
}

// P2.2: a Fuse that came while the power was gone is no fuse any more behind the Crash.
func TestCrashForgetsTheFuse(t *testing.T) {
	d := New(1)
	d.Fuse(0)
	down(t, d, "Fuse(0)")
	d.Fuse(1)
	d.Crash(0, -1, 0)
	for range 5 {
		put(t, d, 0, "a")
		flush(t, d)
	}
}

// P2.2: a call that answers ErrArg does not take the power, so a newer Fuse counts behind it.
func TestWrongCallTakesNoPower(t *testing.T) {
	d := New(1)
	d.Fuse(0)
	if a, b := d.Write(1, nil), d.Write(0, make([]byte, 65)); a != api.ErrArg || b != api.ErrArg {
		t.Errorf("wrong Writes: errors %d, %d", a, b)
	}
	d.Read(0)
	d.Read(1)
	d.Lasts(0)
	d.Fuse(1)
	put(t, d, 0, "a")
	down(t, d, "Fuse(1), Write")
}

// P2.2: behind a crash the power is there, and no fuse.
func TestCrashBringsPower(t *testing.T) {
	for _, n := range []int{0, 1, 3} {
		d := New(1)
		d.Fuse(n)
		d.Flush()
		d.Crash(0, -1, 0)
		for range 5 {
			put(t, d, 0, "a")
			flush(t, d)
		}
	}
}

// P2.2: which of the loose Writes last, bit by bit.
func TestCrashKeeps(t *testing.T) {
	for keep := range uint64(16) {
		d := New(4)
		for at := range 4 {
			put(t, d, at, "old")
		}
		flush(t, d)
		for at := range 4 {
			put(t, d, at, "n")
		}
		d.Crash(keep, -1, 7)
		loose(t, d, 0)
		for at := range 4 {
			want := "old"
			if keep>>at&1 == 1 {
				want = "n"
			}
			see(t, d, at, want, want)
		}
	}
}

// P2.2: Writes of one sector land in order, so the last that lands is seen.
func TestCrashInOrder(t *testing.T) {
	for _, c := range []struct {
		keep     uint64
		torn, at int
		want     string
	}{
		{0, -1, 0, "old"},
		{1, -1, 0, "aaaa"},
		{2, -1, 0, "bbb"},
		{3, -1, 0, "bbb"},
		{5, -1, 0, "cc"},
		{7, -1, 0, "cc"},
		{1, 1, 2, "bbaa"},
		{0, 1, 2, "bbd"},
		{1, 2, 1, "caaa"},
		{3, 2, 3, "cc\x00"},
		{7, 0, 1, "cc"},
		{2, 0, 2, "bbb"},
		{0, 0, 2, "aad"},
		{6, 2, 0, "bbb"},
	} {
		d := New(1)
		put(t, d, 0, "old")
		flush(t, d)
		put(t, d, 0, "aaaa")
		put(t, d, 0, "bbb")
		put(t, d, 0, "cc")
		d.Crash(c.keep, c.torn, c.at)
		if b, _ := d.Lasts(0); string(b) != full(c.want) {
			t.Errorf("Crash(%d, %d, %d): %q", c.keep, c.torn, c.at, b)
		}
		see(t, d, 0, c.want, c.want)
	}
}

// P2.2: number 64 goes by bit 0 again, and torn counts on.
func TestCrashOfMany(t *testing.T) {
	for _, keep := range []uint64{0, 1, 1 << 63, 1<<32 | 1<<5, math.MaxUint64, 0xaaaaaaaaaaaaaaaa} {
		for _, torn := range []int{-1, 0, 63, 64, 65, 128, 199, 200, math.MaxInt, math.MinInt} {
			d := New(200)
			for at := range 200 {
				put(t, d, at, line("b"))
			}
			d.Crash(keep, torn, 2)
			for at := range 200 {
				want := ""
				if keep>>(at%64)&1 == 1 {
					want = line("b")
				}
				if at == torn {
					want = "bb"
				}
				see(t, d, at, want, want)
			}
		}
	}
}

// P2.2: how many bytes of a torn Write last; those it filled up with 0 are of it.
func TestCrashTears(t *testing.T) {
	for _, keep := range []uint64{0, 1} {
		for _, at := range []int{math.MinInt, -1, 0, 1, 2, 3, 4, 5, 62, 63, 64, 65, math.MaxInt} {
			d := New(1)
			put(t, d, 0, line("o"))
			flush(t, d)
			put(t, d, 0, "new")
			d.Crash(keep, 0, at)
			n := min(max(at, 0), 64)
			want := full("new")[:n] + line("o")[n:]
			see(t, d, 0, want, want)
			loose(t, d, 0)
		}
	}
}

// P2.2: what a Flush made last is no longer to be torn or lost, and the count begins anew.
func TestCrashBehindFlush(t *testing.T) {
	d := New(2)
	put(t, d, 0, "a")
	flush(t, d)
	put(t, d, 1, "bbb")
	d.Crash(0, 0, 1)
	see(t, d, 0, "a", "a")
	see(t, d, 1, "b", "b")
	put(t, d, 1, "ccc")
	d.Crash(1, 1, 1)
	see(t, d, 1, "ccc", "ccc")
	d.Crash(1, 0, 1)
	see(t, d, 0, "a", "a")
	see(t, d, 1, "ccc", "ccc")
}

// P2.2: a Write that was not done, for want of power or as a wrong one, is no loose one.
func TestCrashCountsWhatIsDone(t *testing.T) {
	d := New(2)
	d.Write(2, []byte("x"))
	d.Fuse(2)
	put(t, d, 0, "a")
	d.Write(-1, []byte("x"))
	put(t, d, 1, "b")
	d.Write(0, []byte("x"))
	d.Crash(6, -1, 0)
	see(t, d, 0, "", "")
	see(t, d, 1, "b", "b")
}

// R4: what is handed in stays as it is, and is not kept.
func TestWhatIsHandedIn(t *testing.T) {
	d := New(1)
	room := []byte("abcdefgh")
	if e := d.Write(0, room[:3]); e != api.OK {
		t.Fatalf("Write: error %d", e)
	}
	if string(room) != "abcdefgh" {
		t.Errorf("changed: %q", room)
	}
	copy(room, "xxxxxxxx")
	see(t, d, 0, "abc", "")
	flush(t, d)
	see(t, d, 0, "abc", "abc")
}

// R4: what is answered is new memory.
func TestWhatIsAnswered(t *testing.T) {
	d := New(1)
	put(t, d, 0, "abc")
	flush(t, d)
	var got [][]byte
	for range 2 {
		a, _ := d.Read(0)
		b, _ := d.Lasts(0)
		got = append(got, a, b)
	}
	for i, b := range got {
		b = b[:cap(b)]
		for j := range b {
			b[j] = byte('0' + i)
		}
	}
	for i, b := range got {
		if want := line(fmt.Sprint(i)); string(b) != want {
			t.Errorf("answer %d: %q", i, b)
		}
	}
	see(t, d, 0, "abc", "abc")
}

// R5: two disks have nothing in common.
func TestTwoDisks(t *testing.T) {
	a, b := New(1), New(1)
	put(t, a, 0, "a")
	a.Fuse(0)
	put(t, b, 0, "b")
	flush(t, b)
	see(t, a, 0, "a", "")
	see(t, b, 0, "b", "b")
	loose(t, a, 1)
	loose(t, b, 0)
}

// model is a disk told otherwise: a list of all Writes that may count, and of what came between them.
type model struct {
	n     int
	base  []string
	loose []write
	fuse  int // below 0: none
	gone  bool
}

func newModel(n int) *model {
	m := &model{n: n, fuse: -1}
	for range n {
		m.base = append(m.base, full(""))
	}
	return m
}

func (m *model) power() api.Errno {
	m.gone = m.gone || m.fuse == 0
	if m.gone {
		return api.ErrDown
	}
	if m.fuse > 0 {
		m.fuse--
	}
	return api.OK
}

func (m *model) write(at int, b []byte) api.Errno {
	if at < 0 || at >= m.n || len(b) > 64 {
		return api.ErrArg
	}
	e := m.power()
	if e == api.OK {
		m.loose = append(m.loose, write{at, page([]byte(full(string(b))))})
	}
	return e
}

func (m *model) flush() api.Errno {
	e := m.power()
	if e == api.OK {
		for at := range m.n {
			m.base[at] = m.read(at)
		}
		m.loose = nil
	}
	return e
}

func (m *model) read(at int) string {
	for i := len(m.loose) - 1; i >= 0; i-- {
		if m.loose[i].at == at {
			return string(m.loose[i].what[:])
		}
	}
	return m.base[at]
}

func (m *model) crash(keep uint64, torn, at int) {
	for i, w := range m.loose {
		b := string(w.what[:])
		switch {
		case i == torn && at <= 0:
		case i == torn && at < 64:
			m.base[w.at] = b[:at] + m.base[w.at][at:]
		case i == torn || keep&(1<<(uint(i)%64)) != 0:
			m.base[w.at] = b
		}
	}
	m.loose, m.fuse, m.gone = nil, -1, false
}

// P2.1 and P2.2 together: many calls, held against the model behind each.
func TestManyCalls(t *testing.T) {
	for seed := range int64(60) {
		r := rand.New(rand.NewSource(seed))
		n := r.Intn(6)
		d, m := New(n), newModel(n)
		for i := range 400 {
			var got, want api.Errno
			switch k := r.Intn(20); {
			case k < 13:
				at, b := r.Intn(n+2)-1, make([]byte, r.Intn(67))
				r.Read(b)
				got, want = d.Write(at, b), m.write(at, b)
			case k < 16:
				got, want = d.Flush(), m.flush()
			case k < 18:
				f := r.Intn(30) - 1
				d.Fuse(f)
				m.fuse = max(f, 0)
			default:
				keep, torn, at := r.Uint64(), r.Intn(12)-1, r.Intn(70)-3
				d.Crash(keep, torn, at)
				m.crash(keep, torn, at)
			}
			if got != want || d.Loose() != len(m.loose) {
				t.Fatalf("seed %d, call %d: errors %d, want %d; loose %d, want %d", seed, i, got, want, d.Loose(), len(m.loose))
			}
			for at := range n {
				see(t, d, at, m.read(at), m.base[at])
			}
			if t.Failed() {
				t.Fatalf("seed %d, call %d", seed, i)
			}
		}
	}
}
