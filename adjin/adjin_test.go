package adjin

import (
	"fmt"
	"math"
	"math/rand"
	"slices"
	"strings"
	"testing"

	"interregnum/api"
)

// somePeers are numbers of peers, rising: static ones, those that mean something, and those that a byte or 32 bits would make another's.
var somePeers = []int{math.MinInt, math.MinInt32, -257, -2, -1, 0, 1, 2, 7, 8, 255, 256, 257, math.MaxInt32, 1 << 32, 1<<32 + 1, 1<<32 + 2, math.MaxInt}

// somePrefixes are prefixes, rising: right ones, and others, which are kept as they are.
var somePrefixes = []api.Prefix{
	{Len: math.MinInt}, {Len: -1}, {}, {Len: 1}, {Len: 8}, {Len: 32}, {Len: 33}, {Len: 256}, {Len: 1 << 32}, {Len: math.MaxInt},
	{Addr: 1, Len: -1}, {Addr: 1, Len: 0}, {Addr: 1, Len: 8}, {Addr: 1, Len: 32}, {Addr: 2, Len: 0}, {Addr: 2, Len: 31},
	{Addr: 0x0a000000, Len: 8}, {Addr: 0x0a000000, Len: 9}, {Addr: 0x0a000000, Len: 16}, {Addr: 0x0a000001, Len: 8}, {Addr: 0x0a010000, Len: 8}, {Addr: 0x0a010000, Len: 16}, {Addr: 0x0b000000, Len: 8},
	{Addr: 0x7fffffff, Len: 32}, {Addr: 0x80000000, Len: 1}, {Addr: 0x80000000, Len: 2}, {Addr: 0xffffffff, Len: math.MinInt}, {Addr: 0xffffffff, Len: 32}, {Addr: 0xffffffff, Len: math.MaxInt},
}

// full answers a route with something in each field, and in each list more than one.
func full() api.Route {
	return api.Route{
		Prefix: api.Prefix{Addr: 0x0a010000, Len: 16},
		Peer:   3,
		Attrs: api.Attrs{
			Origin: 1,
			Path:   []api.Segment{{AS: []int{70000, 2, 3}}, {Set: true, AS: []int{5, 6}}, {AS: []int{7}}},
			Next:   0x0a000001,
			Med:    50,
			Pref:   200,
			Comms:  []uint32{8, 0xffff0005, 9},
			Raws:   []api.Raw{{Flags: 0x40, Type: 6}, {Flags: 0xe0, Type: 20, Data: []byte("abc")}, {Flags: 0xe0, Type: 21, Data: []byte("d")}},
		},
		Stale: 1,
	}
}

// by answers a full route of peer, of p, that is told from others by n.
func by(peer int, p api.Prefix, n int) api.Route {
	r := full()
	r.Peer, r.Prefix, r.Stale = peer, p, n%3
	r.Attrs.Next = uint32(n)
	r.Attrs.Path[1].AS[0] = n
	r.Attrs.Raws[1].Data[0] = byte(n)
	r.Attrs.Comms = r.Attrs.Comms[:n&3]
	return r
}

// told answers r as a text: two texts are the same just if all is the same, nil or empty.
func told(r api.Route) string {
	var s strings.Builder
	a := r.Attrs
	fmt.Fprint(&s, r.Prefix.Addr, "/", r.Prefix.Len, " ", r.Peer, " ", r.Stale, " ", a.Origin, " ", a.Next, " ", a.Med, " ", a.Pref)
	for _, x := range a.Path {
		fmt.Fprint(&s, " segment ", x.Set, len(x.AS))
		for _, as := range x.AS {
			fmt.Fprint(&s, " ", as)
		}
	}
	for _, x := range a.Comms {
		fmt.Fprint(&s, " community ", x)
	}
	for _, x := range a.Raws {
		fmt.Fprintf(&s, " raw %d %d %x", x.Flags, x.Type, x.Data)
	}
	return s.String()
}

// toldAll answers the routes of list as a text, a line each.
func toldAll(list []api.Route) string {
	var lines []string
	for _, r := range list {
		lines = append(lines, told(r))
	}
	return strings.Join(lines, "\n")
}

func mustGet(t *testing.T, x *Table, want api.Route) {
	t.Helper()
	if got, ok := x.Get(want.Peer, want.Prefix); !ok || told(got) != told(want) {
		t.Fatalf("Get(%d, %+v): %s, %v\nwant %s", want.Peer, want.Prefix, told(got), ok, told(want))
	}
}

func mustNotGet(t *testing.T, x *Table, peer int, p api.Prefix) {
	t.Helper()
	got, ok := x.Get(peer, p)
	if a := got.Attrs; ok || told(got) != told(api.Route{}) || len(a.Path)+len(a.Comms)+len(a.Raws) != 0 {
		t.Fatalf("Get(%d, %+v): %s, %v", peer, p, told(got), ok)
	}
}

func mustDrop(t *testing.T, x *Table, peer int, p api.Prefix, was bool) {
	t.Helper()
	if x.Drop(peer, p) != was {
		t.Fatalf("Drop(%d, %+v): %v", peer, p, !was)
	}
}

func mustHave(t *testing.T, x *Table, want ...api.Prefix) {
	t.Helper()
	if got := x.Prefixes(); !slices.Equal(got, want) {
		t.Fatalf("Prefixes: %+v\nwant %+v", got, want)
	}
}

func mustList(t *testing.T, got []api.Route, want ...api.Route) {
	t.Helper()
	if len(got) != len(want) || toldAll(got) != toldAll(want) {
		t.Fatalf("%d: %s\nwant %d: %s", len(got), toldAll(got), len(want), toldAll(want))
	}
}

func mustLen(t *testing.T, x *Table, want int) {
	t.Helper()
	if x.Len() != want {
		t.Fatalf("Len: %d, want %d", x.Len(), want)
	}
}

// model tells the chapter's sentences a second time, by a list in the order of putting.
type model []api.Route

func (m model) place(peer int, p api.Prefix) int {
	return slices.IndexFunc(m, func(r api.Route) bool {
		return r.Peer == peer && r.Prefix.Addr == p.Addr && r.Prefix.Len == p.Len
	})
}

func (m *model) put(r api.Route) {
	m.drop(r.Peer, r.Prefix)
	*m = append(*m, r)
}

func (m *model) drop(peer int, p api.Prefix) bool {
	i := m.place(peer, p)
	if i < 0 {
		return false
	}
	*m = slices.Delete(slices.Clone(*m), i, i+1)
	return true
}

// of picks them prefix by prefix, as somePrefixes has them.
func (m model) of(peer int) []api.Route {
	var list []api.Route
	for _, p := range somePrefixes {
		if i := m.place(peer, p); i >= 0 {
			list = append(list, m[i])
		}
	}
	return list
}

// by picks them peer by peer, as somePeers has them.
func (m model) by(p api.Prefix) []api.Route {
	var list []api.Route
	for _, peer := range somePeers {
		if i := m.place(peer, p); i >= 0 {
			list = append(list, m[i])
		}
	}
	return list
}

func (m model) prefixes() []api.Prefix {
	var list []api.Prefix
	for _, p := range somePrefixes {
		if len(m.by(p)) > 0 {
			list = append(list, p)
		}
	}
	return list
}

// mustBe asks x all that there is to ask.
func mustBe(t *testing.T, x *Table, m model) {
	t.Helper()
	mustLen(t, x, len(m))
	mustHave(t, x, m.prefixes()...)
	for _, peer := range somePeers {
		mustList(t, x.Of(peer), m.of(peer)...)
	}
	for _, p := range somePrefixes {
		mustList(t, x.For(p), m.by(p)...)
	}
	for _, peer := range somePeers {
		for _, p := range somePrefixes {
			if i := m.place(peer, p); i >= 0 {
				mustGet(t, x, m[i])
			} else {
				mustNotGet(t, x, peer, p)
			}
		}
	}
}

func TestTheChaptersExample(t *testing.T) {
	x, p := New(), api.Prefix{Addr: 0x0a000000, Len: 8}
	x.Put(by(1, p, 1))
	x.Put(by(1, p, 2))
	mustLen(t, x, 1)
	mustGet(t, x, by(1, p, 2))
	mustList(t, x.Of(1), by(1, p, 2))
	mustList(t, x.For(p), by(1, p, 2))
	mustHave(t, x, p)
	// The same one again is no other, nor is one with nothing in it.
	x.Put(by(1, p, 2))
	mustLen(t, x, 1)
	x.Put(api.Route{Peer: 1, Prefix: p})
	mustLen(t, x, 1)
	mustGet(t, x, api.Route{Peer: 1, Prefix: p})
	mustDrop(t, x, 1, p, true)
	mustLen(t, x, 0)
}

// askNothing asks x, which has nothing, all there is to ask.
func askNothing(t *testing.T, x *Table) {
	t.Helper()
	mustBe(t, x, nil)
	for _, peer := range somePeers {
		for _, p := range somePrefixes {
			mustDrop(t, x, peer, p, false)
		}
	}
	mustBe(t, x, nil)
}

func TestNil(t *testing.T) {
	var x *Table
	askNothing(t, x)
	x.Put(full())
	x.Put(api.Route{})
	askNothing(t, x)
}

func TestNewHasNothing(t *testing.T) {
	askNothing(t, New())
	askNothing(t, &Table{})
}

// A zero Table is as a new one.
func TestZero(t *testing.T) {
	var x Table
	x.Put(by(7, somePrefixes[3], 1))
	mustBe(t, &x, model{by(7, somePrefixes[3], 1)})
}

func TestEachPeerAndPrefixHasItsOwn(t *testing.T) {
	x := New()
	var m model
	for i, peer := range somePeers {
		for j, p := range somePrefixes {
			x.Put(by(peer, p, 100*i+j))
			m.put(by(peer, p, 100*i+j))
		}
	}
	mustBe(t, x, m)
	for i, peer := range somePeers {
		// One of each peer goes; each of the others stays.
		p := somePrefixes[i*5%len(somePrefixes)]
		mustDrop(t, x, peer, p, true)
		mustDrop(t, x, peer, p, false)
		m.drop(peer, p)
	}
	mustBe(t, x, m)
}

// A prefix is there as long as one peer has a route of it.
func TestPrefixesAreThereOnce(t *testing.T) {
	x, p, q := New(), api.Prefix{Addr: 0x0a000000, Len: 8}, api.Prefix{Addr: 0x0a000000, Len: 16}
	for peer := range 8 {
		x.Put(by(peer, q, peer))
		x.Put(by(peer, p, peer))
	}
	mustLen(t, x, 16)
	for peer := range 8 {
		mustHave(t, x, p, q)
		mustDrop(t, x, peer, p, true)
	}
	mustHave(t, x, q)
	for peer := range 8 {
		mustHave(t, x, q)
		mustDrop(t, x, peer, q, true)
	}
	mustHave(t, x)
	mustLen(t, x, 0)
}

// Whatever the order in which they come, and the map's, they are told in the chapter's.
func TestOrder(t *testing.T) {
	source := rand.New(rand.NewSource(14))
	for range 40 {
		x := New()
		for _, i := range source.Perm(len(somePrefixes)) {
			x.Put(by(2, somePrefixes[i], i))
		}
		for _, i := range source.Perm(len(somePeers)) {
			x.Put(by(somePeers[i], somePrefixes[4], i))
		}
		mustHave(t, x, somePrefixes...)
		for i, r := range x.Of(2) {
			if r.Prefix != somePrefixes[i] {
				t.Fatalf("Of: %+v at %d", r.Prefix, i)
			}
		}
		for i, r := range x.For(somePrefixes[4]) {
			if r.Peer != somePeers[i] {
				t.Fatalf("For: %d at %d", r.Peer, i)
			}
		}
	}
}

func TestAllAsTheSentencesSay(t *testing.T) {
	source := rand.New(rand.NewSource(114))
	dropped, missed, again := 0, 0, 0
	for range 40 {
		x := New()
		var m model
		few := 2 + source.Intn(len(somePeers)-1)
		for n := range 200 {
			peer, p := somePeers[source.Intn(few)], somePrefixes[source.Intn(len(somePrefixes))]
			if source.Intn(3) > 0 {
				if m.place(peer, p) >= 0 {
					again++
				}
				x.Put(by(peer, p, n))
				m.put(by(peer, p, n))
			} else if was := m.drop(peer, p); was {
				mustDrop(t, x, peer, p, true)
				dropped++
			} else {
				mustDrop(t, x, peer, p, false)
				missed++
			}
			mustLen(t, x, len(m))
		}
		mustBe(t, x, m)
	}
	if dropped < 300 || missed < 300 || again < 300 {
		t.Errorf("%d dropped, %d missed, %d put again", dropped, missed, again)
	}
}

// fill puts other numbers into all that r's lists hold, spare room included.
func fill(r api.Route) {
	for _, s := range r.Attrs.Path[:cap(r.Attrs.Path)] {
		for i := range s.AS[:cap(s.AS)] {
			s.AS[:cap(s.AS)][i] = -77
		}
	}
	for _, x := range r.Attrs.Raws[:cap(r.Attrs.Raws)] {
		for i := range x.Data[:cap(x.Data)] {
			x.Data[:cap(x.Data)][i] = 77
		}
	}
	for i := range r.Attrs.Path[:cap(r.Attrs.Path)] {
		r.Attrs.Path[:cap(r.Attrs.Path)][i] = api.Segment{Set: true, AS: []int{-78}}
	}
	for i := range r.Attrs.Comms[:cap(r.Attrs.Comms)] {
		r.Attrs.Comms[:cap(r.Attrs.Comms)][i] = 79
	}
	for i := range r.Attrs.Raws[:cap(r.Attrs.Raws)] {
		r.Attrs.Raws[:cap(r.Attrs.Raws)][i] = api.Raw{Type: 80}
	}
}

// roomy answers full() in lists with spare room, and a route whose lists show that room.
func roomy() (r, room api.Route) {
	room = full()
	room.Attrs.Path = append(room.Attrs.Path, api.Segment{AS: []int{81}})
	room.Attrs.Path[2].AS = append(room.Attrs.Path[2].AS, 82)
	room.Attrs.Comms = append(room.Attrs.Comms, 83, 84)
	room.Attrs.Raws = append(room.Attrs.Raws, api.Raw{Type: 85, Data: []byte("e")})
	room.Attrs.Raws[2].Data = append(room.Attrs.Raws[2].Data, 86)
	r = room
	r.Attrs.Path, r.Attrs.Comms, r.Attrs.Raws = slices.Clone(room.Attrs.Path)[:3], room.Attrs.Comms[:3], slices.Clone(room.Attrs.Raws)[:3]
	r.Attrs.Path[2].AS = r.Attrs.Path[2].AS[:1]
	r.Attrs.Raws[2].Data = r.Attrs.Raws[2].Data[:1]
	return r, room
}

// Rule R4: what is put stays the caller's, spare room included, and is not kept.
func TestMemoryOfWhatIsPut(t *testing.T) {
	x := New()
	r, room := roomy()
	spare := told(room)
	x.Put(r)
	if told(r) != told(full()) || told(room) != spare {
		t.Fatalf("%s\n%s", told(r), told(room))
	}
	fill(r)
	fill(room)
	mustGet(t, x, full())
	mustList(t, x.Of(3), full())
	mustList(t, x.For(full().Prefix), full())
}

// Rule R4: what is answered is the caller's own: neither what is kept nor another answer turns with it.
func TestMemoryOfAnswers(t *testing.T) {
	p := full().Prefix
	for name, ask := range map[string]func(x *Table) []api.Route{
		"Get": func(x *Table) []api.Route {
			r, _ := x.Get(3, p)
			return []api.Route{r}
		},
		"Of":  func(x *Table) []api.Route { return x.Of(3) },
		"For": func(x *Table) []api.Route { return x.For(p) },
	} {
		t.Run(name, func(t *testing.T) {
			x := New()
			x.Put(full())
			got, other := ask(x), ask(x)
			fill(got[0])
			got = got[:cap(got)]
			clear(got)
			mustList(t, other, full())
			mustGet(t, x, full())
			mustList(t, x.Of(3), full())
			mustList(t, x.For(p), full())
			// Nor does an answer turn with what is kept.
			x.Put(by(3, p, 4))
			mustList(t, other, full())
			x.Drop(3, p)
			mustList(t, other, full())
		})
	}
}

func TestMemoryOfPrefixes(t *testing.T) {
	x := New()
	for i, p := range somePrefixes {
		x.Put(by(1, p, i))
		x.Put(by(2, p, i))
	}
	got, other := x.Prefixes(), x.Prefixes()
	got = got[:cap(got)]
	for i := range got {
		got[i] = api.Prefix{Addr: 77, Len: 7}
	}
	mustHave(t, x, somePrefixes...)
	x.Drop(1, somePrefixes[0])
	x.Drop(2, somePrefixes[0])
	if !slices.Equal(other, somePrefixes) {
		t.Errorf("%+v", other)
	}
}

// The routes of one answer share nothing, even if they were put with the same lists.
func TestRoutesOfOneAnswer(t *testing.T) {
	x, shared := New(), full()
	p, q := api.Prefix{Len: 1}, api.Prefix{Len: 2}
	for _, at := range []api.Prefix{p, q} {
		for peer := 1; peer <= 2; peer++ {
			r := shared
			r.Prefix, r.Peer = at, peer
			x.Put(r)
		}
	}
	want := full()
	want.Prefix, want.Peer = q, 1
	of := x.Of(1)
	fill(of[0])
	mustList(t, of[1:], want)
	want.Prefix, want.Peer = p, 2
	list := x.For(p)
	fill(list[0])
	mustList(t, list[1:], want)
	mustGet(t, x, want)
}

// Rule R5: what one Table has is no other's.
func TestEachTableHasItsOwn(t *testing.T) {
	x, y, p := New(), New(), full().Prefix
	x.Put(full())
	askNothing(t, y)
	y.Put(by(3, p, 9))
	mustGet(t, x, full())
	mustDrop(t, y, 3, p, true)
	mustGet(t, x, full())
	mustLen(t, New(), 0)
}

// What is gone is not kept: as many places are left as routes.
func TestDropGivesRoomBack(t *testing.T) {
	x := New()
	for i := range 1000 {
		x.Put(by(1, api.Prefix{Addr: uint32(i) << 8, Len: 24}, i))
	}
	for i := range 990 {
		mustDrop(t, x, 1, api.Prefix{Addr: uint32(i) << 8, Len: 24}, true)
	}
	mustLen(t, x, 10)
	if len(x.routes) != 10 || len(x.Of(1)) != 10 || len(x.Prefixes()) != 10 {
		t.Errorf("%d, %d, %d", len(x.routes), len(x.Of(1)), len(x.Prefixes()))
	}
}
