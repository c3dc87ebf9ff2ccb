package timer

import (
	"fmt"
	"math"
	"math/rand"
	"slices"
	"strings"
	"testing"
	"unsafe"
)

// someNames are names, rising byte by byte: the empty one, bytes 0, numbers that another order would turn round, pieces of others, those of the speaker, and bytes that are no text.
var someNames = []string{"", "\x00", "\x00\x00", "\x01", " ", "10", "2", "A", "Z", "a", "a\x00", "a ", "aa", "ab", "alive/002", "b", "defer/000", "hold/001", "hold/010", "hold/2", "want/001", "want/999", "~", "\x7f", "\x80", "\xc3", "\xc3\xa9", "\xff", "\xff\x00", "\xff\xff"}

// someMoments are moments, rising: at their ends, and those that 32 bits or a float would make another's.
var someMoments = []int{math.MinInt, math.MinInt + 1, math.MinInt32 - 1, math.MinInt32, -2, -1, 0, 1, 2, 255, 256, math.MaxInt32, math.MaxInt32 + 1, 1 << 32, 1<<32 + 1, 1 << 40, 1<<53 + 1, 1<<53 + 2, math.MaxInt - 1, math.MaxInt}

// one is a name and its moment.
type one struct {
	name string
	at   int
}

// model tells the chapter's sentences a second time, by a list in the order of setting.
type model []one

func (m model) place(name string) int {
	return slices.IndexFunc(m, func(o one) bool { return o.name == name })
}

func (m *model) stop(name string) {
	if i := m.place(name); i >= 0 {
		*m = slices.Delete(slices.Clone(*m), i, i+1)
	}
}

func (m *model) set(name string, at int) {
	m.stop(name)
	*m = append(*m, one{name: name, at: at})
}

// inOrder answers them by moment, then by name, both told apart digit by digit and byte by byte.
func (m model) inOrder() []one {
	list := slices.Clone(m)
	slices.SortFunc(list, func(a, b one) int { return strings.Compare(a.key(), b.key()) })
	return list
}

// key answers a text that rises with the moment, then with the name.
func (o one) key() string {
	return fmt.Sprintf("%020d", uint64(o.at)+1<<63) + o.name
}

func (m *model) due(now int) (string, int, bool) {
	for _, o := range m.inOrder() {
		if o.at <= now {
			m.stop(o.name)
			return o.name, o.at, true
		}
	}
	return "", 0, false
}

func mustAt(t *testing.T, x *Timers, name string, want int) {
	t.Helper()
	if at, ok := x.At(name); at != want || !ok {
		t.Fatalf("At(%q): %d, %v, want %d", name, at, ok, want)
	}
}

func mustNotAt(t *testing.T, x *Timers, name string) {
	t.Helper()
	if at, ok := x.At(name); at != 0 || ok {
		t.Fatalf("At(%q): %d, %v", name, at, ok)
	}
}

func mustDue(t *testing.T, x *Timers, now int, name string, at int) {
	t.Helper()
	if gotName, gotAt, ok := x.Due(now); gotName != name || gotAt != at || !ok {
		t.Fatalf("Due(%d): %q, %d, %v, want %q, %d", now, gotName, gotAt, ok, name, at)
	}
}

func mustNotDue(t *testing.T, x *Timers, now int) {
	t.Helper()
	if name, at, ok := x.Due(now); name != "" || at != 0 || ok {
		t.Fatalf("Due(%d): %q, %d, %v", now, name, at, ok)
	}
}

// mustHave asks x for each name's moment.
func mustHave(t *testing.T, x *Timers, m model) {
	t.Helper()
	for _, name := range someNames {
		if i := m.place(name); i >= 0 {
			mustAt(t, x, name, m[i].at)
		} else {
			mustNotAt(t, x, name)
		}
	}
}

// mustGo takes all of x away, in the order of m.
func mustGo(t *testing.T, x *Timers, m model) {
	t.Helper()
	for _, o := range m.inOrder() {
		mustDue(t, x, math.MaxInt, o.name, o.at)
	}
	mustNotDue(t, x, math.MaxInt)
	mustHave(t, x, nil)
}

func TestTheChaptersExample(t *testing.T) {
	x := New()
	x.Set("b", 7)
	x.Set("a", 7)
	mustDue(t, x, 7, "a", 7)
	mustDue(t, x, 7, "b", 7)
	mustNotDue(t, x, 7)
}

// askNothing asks x, which has nothing, all there is to ask.
func askNothing(t *testing.T, x *Timers) {
	t.Helper()
	mustHave(t, x, nil)
	for _, now := range someMoments {
		mustNotDue(t, x, now)
	}
	for _, name := range someNames {
		x.Stop(name)
	}
	mustHave(t, x, nil)
}

func TestNil(t *testing.T) {
	var x *Timers
	askNothing(t, x)
	for _, name := range someNames {
		x.Set(name, 0)
	}
	askNothing(t, x)
}

func TestNewHasNothing(t *testing.T) {
	askNothing(t, New())
	askNothing(t, &Timers{})
}

// A zero Timers is as a new one.
func TestZero(t *testing.T) {
	var x Timers
	x.Set("a", 3)
	mustAt(t, &x, "a", 3)
	mustDue(t, &x, 3, "a", 3)
	askNothing(t, &x)
}

// It is due from its moment on, not ahead of it, and only once.
func TestDueAtEachMoment(t *testing.T) {
	for _, at := range someMoments {
		for _, now := range someMoments {
			x := New()
			x.Set("a", at)
			if now < at {
				mustNotDue(t, x, now)
				mustAt(t, x, "a", at)
			} else {
				mustDue(t, x, now, "a", at)
				mustNotAt(t, x, "a")
				mustNotDue(t, x, now)
			}
		}
	}
}

// The one that is due first goes first, whatever its name, and when it was set.
func TestFirstMomentFirst(t *testing.T) {
	for i, early := range someMoments {
		for _, late := range someMoments[i+1:] {
			for _, names := range [][2]string{{"a", "b"}, {"b", "a"}} {
				for _, last := range []bool{false, true} {
					x := New()
					if last {
						x.Set(names[1], late)
					}
					x.Set(names[0], early)
					if !last {
						x.Set(names[1], late)
					}
					mustDue(t, x, late, names[0], early)
					mustDue(t, x, late, names[1], late)
					mustNotDue(t, x, late)
				}
			}
		}
	}
}

// One that is behind now stays, and does not keep those ahead of it from being due.
func TestDueStopsAtNow(t *testing.T) {
	x := New()
	for i := range 5 {
		x.Set(someNames[9-i], i)
	}
	mustNotDue(t, x, -1)
	for i := range 3 {
		mustDue(t, x, 2, someNames[9-i], i)
	}
	mustNotDue(t, x, 2)
	mustHave(t, x, model{{someNames[6], 3}, {someNames[5], 4}})
	// Nor is one that was asked for too early another one later.
	mustDue(t, x, 3, someNames[6], 3)
	mustNotDue(t, x, 3)
	mustDue(t, x, 4, someNames[5], 4)
}

// Of equal moments the least name is first, whatever the order of setting, and the map's.
func TestLeastNameOfEqualOnes(t *testing.T) {
	source := rand.New(rand.NewSource(17))
	if !slices.IsSorted(someNames) {
		t.Fatal("someNames do not rise")
	}
	for _, at := range someMoments {
		for range 5 {
			x := New()
			for _, i := range source.Perm(len(someNames)) {
				x.Set(someNames[i], at)
			}
			for _, name := range someNames {
				mustDue(t, x, at, name, at)
			}
			mustNotDue(t, x, at)
		}
	}
}

// Set again: it is due at the new moment alone, be that ahead or behind.
func TestSetAgain(t *testing.T) {
	for _, name := range someNames {
		for _, was := range someMoments {
			for _, is := range someMoments {
				x := New()
				x.Set(name, was)
				x.Set(name, is)
				mustAt(t, x, name, is)
				if is > math.MinInt {
					mustNotDue(t, x, is-1)
				}
				mustDue(t, x, is, name, is)
				mustNotDue(t, x, math.MaxInt)
			}
		}
	}
}

// What was stopped, or was due, can be set again.
func TestSetBehindStopAndDue(t *testing.T) {
	x := New()
	x.Set("a", 5)
	x.Stop("a")
	mustNotAt(t, x, "a")
	mustNotDue(t, x, math.MaxInt)
	x.Set("a", 3)
	mustDue(t, x, 9, "a", 3)
	mustNotDue(t, x, 9)
	x.Set("a", 3)
	mustAt(t, x, "a", 3)
	mustDue(t, x, 9, "a", 3)
	mustNotDue(t, x, 9)
}

// Each name is its own: to stop one, or to set it, is nothing to those that are like it.
func TestStopTakesOne(t *testing.T) {
	for _, name := range someNames {
		x := New()
		var m model
		for i, other := range someNames {
			x.Set(other, i%4)
			m.set(other, i%4)
		}
		x.Stop(name)
		x.Stop(name)
		x.Stop("not there")
		m.stop(name)
		mustHave(t, x, m)
		mustGo(t, x, m)
	}
}

// To ask when one is due takes nothing away.
func TestAtLeavesAll(t *testing.T) {
	x := New()
	var m model
	for i, name := range someNames {
		at := someMoments[i*7%len(someMoments)]
		x.Set(name, at)
		m.set(name, at)
	}
	for range 3 {
		mustHave(t, x, m)
		mustNotAt(t, x, "not there")
	}
	mustGo(t, x, m)
}

func TestAllAsTheSentencesSay(t *testing.T) {
	source := rand.New(rand.NewSource(117))
	again, stopped, missed, due, early, none := 0, 0, 0, 0, 0, 0
	for range 60 {
		x := New()
		var m model
		few, moments := 1+source.Intn(len(someNames)), 1+source.Intn(len(someMoments))
		for range 300 {
			name, at := someNames[source.Intn(few)], someMoments[source.Intn(moments)]
			switch source.Intn(5) {
			case 0, 1:
				if m.place(name) >= 0 {
					again++
				}
				x.Set(name, at)
				m.set(name, at)
			case 2:
				if m.place(name) >= 0 {
					stopped++
				} else {
					missed++
				}
				x.Stop(name)
				m.stop(name)
			default:
				if wantName, wantAt, ok := m.due(at); ok {
					mustDue(t, x, at, wantName, wantAt)
					due++
				} else {
					mustNotDue(t, x, at)
					early += min(1, len(m))
					none += 1 - min(1, len(m))
				}
			}
		}
		mustHave(t, x, m)
		mustGo(t, x, m)
	}
	if min(again, stopped, missed, due, early, none) < 200 {
		t.Errorf("%d set again, %d stopped, %d not there to be, %d due, %d early, %d none", again, stopped, missed, due, early, none)
	}
}

// Rule R5: what one has is no other's.
func TestEachHasItsOwn(t *testing.T) {
	x, y := New(), New()
	x.Set("a", 1)
	askNothing(t, y)
	y.Set("a", 2)
	mustAt(t, x, "a", 1)
	mustDue(t, y, 9, "a", 2)
	mustAt(t, x, "a", 1)
	y.Stop("a")
	mustAt(t, x, "a", 1)
	askNothing(t, New())
}

// Rule R4: what is answered, and so what was kept, is no memory of a name that was handed in, be it new or set again.
func TestMemoryOfNames(t *testing.T) {
	long := strings.Repeat("hold/001 ", 100)
	for again := range 2 {
		x, given := New(), long[9:17]
		if again == 1 {
			x.Set("hold/001", 3)
		}
		x.Set(given, 4)
		name, _, _ := x.Due(4)
		if name != given || unsafe.StringData(name) == unsafe.StringData(given) {
			t.Errorf("%q is not of its own memory", name)
		}
	}
}

// What is stopped, or was due, is not kept.
func TestRoomIsGivenBack(t *testing.T) {
	x := New()
	for i := range 1000 {
		x.Set(fmt.Sprint(i), i)
		x.Set(fmt.Sprint(i), i)
	}
	for i := range 500 {
		mustDue(t, x, 499, fmt.Sprint(i), i)
	}
	for i := 500; i < 990; i++ {
		x.Stop(fmt.Sprint(i))
	}
	if len(x.moments) != 10 {
		t.Errorf("%d are kept", len(x.moments))
	}
}
