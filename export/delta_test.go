package export

import (
	"fmt"
	"math"
	"math/rand"
	"slices"
	"strings"
	"testing"

	"interregnum/api"
	"interregnum/attr"
	"interregnum/msg"
	"interregnum/prefix"
)

// at answers what is told of the prefix number n, of 24 bits, by a full route's attributes, changed.
func at(n int, changes ...func(a *api.Attrs)) Told {
	return Told{Prefix: api.Prefix{Addr: uint32(n) << 8, Len: 24}, Attrs: full(changes...).Attrs}
}

// from answers what is told of n prefixes, from that of number first on.
func from(first, n int) []Told {
	var list []Told
	for i := range n {
		list = append(list, at(first+i))
	}
	return list
}

// prefixes answers those that list tells of.
func prefixes(list []Told) []api.Prefix {
	var all []api.Prefix
	for _, x := range list {
		all = append(all, x.Prefix)
	}
	return all
}

// goneOf answers an Update of those prefixes, newOf one of what x tells, each with no more than that.
func goneOf(list []Told) api.Update { return api.Update{Gone: prefixes(list)} }
func newOf(x Told) api.Update {
	return api.Update{Attrs: x.Attrs, Nlri: []api.Prefix{x.Prefix}}
}

// texts answers list as a text, a line each.
func texts(list []api.Update) string {
	var s strings.Builder
	for _, u := range list {
		fmt.Fprintln(&s, "gone", u.Gone, "attributes", text(u.Attrs), "nlri", u.Nlri)
	}
	return s.String()
}

// textsOf answers list as a text, a line each.
func textsOf(list []Told) string {
	var s strings.Builder
	for _, x := range list {
		fmt.Fprintln(&s, x.Prefix, text(x.Attrs))
	}
	return s.String()
}

func mustDelta(t *testing.T, old, fresh []Told, want ...api.Update) {
	t.Helper()
	before := textsOf(old) + textsOf(fresh)
	got := Delta(old, fresh)
	if len(got) != len(want) || texts(got) != texts(want) {
		t.Fatalf("Delta: %d:\n%swant %d:\n%s", len(got), texts(got), len(want), texts(want))
	}
	if after := textsOf(old) + textsOf(fresh); after != before {
		t.Fatalf("%sbecame\n%s", before, after)
	}
}

func TestTheChaptersExample(t *testing.T) {
	mustDelta(t, nil, nil)
	mustDelta(t, []Told{}, nil)
	mustDelta(t, nil, []Told{})
	for _, n := range []int{1, 2, 99, 100, 101, 250} {
		mustDelta(t, from(5, n), from(5, n))
	}
}

func TestGoneInHundreds(t *testing.T) {
	for _, n := range []int{1, 2, 50, 99, 100, 101, 199, 200, 201, 250, 300, 1000} {
		for _, fresh := range [][]Told{nil, {}, from(2000, 3)} {
			old := from(0, n)
			var want []api.Update
			for first := 0; first < n; first += 100 {
				want = append(want, goneOf(old[first:min(first+100, n)]))
			}
			for _, x := range fresh {
				want = append(want, newOf(x))
			}
			mustDelta(t, old, fresh, want...)
		}
	}
}

// Those that stay are not counted.
func TestGoneAmongOthers(t *testing.T) {
	var gone, stay []Told
	old := from(0, 400)
	for i, x := range old {
		if i%2 == 0 {
			gone = append(gone, x)
		} else {
			stay = append(stay, x)
		}
	}
	mustDelta(t, old, stay, goneOf(gone[:100]), goneOf(gone[100:]))
	mustDelta(t, old, stay[:199], goneOf(gone[:100]), goneOf(gone[100:]), goneOf(stay[199:]))
	mustDelta(t, old[:201], stay[:100], goneOf(gone[:100]), goneOf(gone[100:101]))
	mustDelta(t, old[1:], stay, goneOf(gone[1:101]), goneOf(gone[101:]))
}

// What is new or another one has an Update of its own, even if all is told by the same attributes.
func TestFresh(t *testing.T) {
	for _, n := range []int{1, 2, 99, 100, 101, 250} {
		var want []api.Update
		for _, x := range from(0, n) {
			want = append(want, newOf(x))
		}
		mustDelta(t, nil, from(0, n), want...)
	}
	mustDelta(t, from(0, 3), from(0, 5), newOf(at(3)), newOf(at(4)))
	mustDelta(t, from(2, 3), from(0, 7), newOf(at(0)), newOf(at(1)), newOf(at(5)), newOf(at(6)))
}

func TestAllAtOnce(t *testing.T) {
	old := []Told{at(0), at(1), at(2), at(4), at(6)}
	fresh := []Told{at(1, withMed(7)), at(2), at(3), at(5), at(6, withPref(-1)), at(9)}
	mustDelta(t, old, fresh, goneOf([]Told{at(0), at(4)}), newOf(at(1, withMed(7))), newOf(at(3)), newOf(at(5)), newOf(at(6, withPref(-1))), newOf(at(9)))
	mustDelta(t, fresh, old, goneOf([]Told{at(3), at(5), at(9)}), newOf(at(0)), newOf(at(1)), newOf(at(4)), newOf(at(6)))
	// What is there is not gone, whatever is told of it.
	mustDelta(t, []Told{at(1)}, []Told{at(1, withNext(8))}, newOf(at(1, withNext(8))))
}

// otherWise answers changes that make attributes others, each in one thing.
func otherWise() []func(a *api.Attrs) {
	return []func(a *api.Attrs){
		func(a *api.Attrs) { a.Origin = 2 },
		func(a *api.Attrs) { a.Path = nil },
		func(a *api.Attrs) { a.Path[0].AS[1] = 9 },
		func(a *api.Attrs) { a.Path[0].Set = true },
		func(a *api.Attrs) { a.Path = a.Path[:2] },
		withNext(5), withMed(-1), withMed(51), withPref(-1), withPref(201),
		func(a *api.Attrs) { a.Comms = nil },
		func(a *api.Attrs) { a.Comms[1], a.Comms[2] = a.Comms[2], a.Comms[1] },
		func(a *api.Attrs) { a.Raws = nil },
		func(a *api.Attrs) { a.Raws[1].Data[0]++ },
		func(a *api.Attrs) { a.Raws[2].Flags = 0 },
		func(a *api.Attrs) { a.Raws[2].Type = 99 },
	}
}

func TestOneThingIsAnother(t *testing.T) {
	for _, change := range otherWise() {
		mustDelta(t, []Told{at(0), at(1), at(2)}, []Told{at(0), at(1, change), at(2)}, newOf(at(1, change)))
		mustDelta(t, []Told{at(0), at(1, change), at(2)}, []Told{at(0), at(1), at(2)}, newOf(at(1)))
		mustDelta(t, []Told{at(1, change)}, []Told{at(1, change)})
	}
}

// Chapter 7's Same: nil and empty lists are the same.
func TestNilAndEmpty(t *testing.T) {
	empty := func(a *api.Attrs) { a.Path, a.Comms, a.Raws = []api.Segment{}, []uint32{}, []api.Raw{} }
	none := func(a *api.Attrs) { a.Path, a.Comms, a.Raws = nil, nil, nil }
	mustDelta(t, []Told{at(1, empty)}, []Told{at(1, none)})
	mustDelta(t, []Told{at(1, none)}, []Told{at(1, empty)})
	mustDelta(t, nil, []Told{at(1, none)}, newOf(at(1, none)))
}

// Prefixes are told from one another by both of what they have, right or not.
func TestPrefixes(t *testing.T) {
	some := []api.Prefix{
		{Len: math.MinInt}, {Len: -1}, {}, {Len: 8}, {Len: 32}, {Len: 33}, {Len: 1<<32 + 8}, {Addr: 0x0a000000, Len: 8}, {Addr: 0x0a000000, Len: 16},
		{Addr: 0x0a010000, Len: 16}, {Addr: 0x80000000, Len: 1}, {Addr: 0xffffffff, Len: 32}, {Addr: 0xffffffff, Len: math.MaxInt},
	}
	for _, p := range some {
		for _, q := range some {
			x, y := Told{Prefix: p, Attrs: full().Attrs}, Told{Prefix: q, Attrs: full().Attrs}
			if p == q {
				mustDelta(t, []Told{x}, []Told{y})
			} else {
				mustDelta(t, []Told{x}, []Told{y}, goneOf([]Told{x}), newOf(y))
			}
		}
	}
}

// What is told is told as it stands, good or not: Export asked.
func TestAnyAttributes(t *testing.T) {
	bad := Told{Prefix: api.Prefix{Len: 99}, Attrs: api.Attrs{Origin: -5, Path: []api.Segment{{}}, Med: math.MinInt, Pref: math.MaxInt, Raws: []api.Raw{{Flags: -1, Type: -1}}}}
	mustDelta(t, nil, []Told{bad}, newOf(bad))
	mustDelta(t, []Told{bad}, nil, goneOf([]Told{bad}))
	mustDelta(t, []Told{{}}, []Told{{}})
	mustDelta(t, nil, []Told{{}}, api.Update{Nlri: []api.Prefix{{}}})
	mustDelta(t, []Told{{}}, nil, api.Update{Gone: []api.Prefix{{}}})
}

// Each Update is a message of chapter 9.
func TestUpdatesAreMessages(t *testing.T) {
	list := Delta(from(0, 250), from(200, 300))
	if len(list) != 2+250 {
		t.Fatalf("%d", len(list))
	}
	for _, u := range list {
		b := msg.Encode(api.Msg{Kind: api.KindUpdate, Update: u})
		m, n := msg.Decode(b)
		if n.Code != 0 || texts([]api.Update{m.Update}) != texts([]api.Update{u}) {
			t.Fatalf("%d bytes, %+v: %s", len(b), n, texts([]api.Update{u}))
		}
	}
}

// fillAll changes everything that list has, spare room included.
func fillAll(list ...api.Update) {
	for _, u := range list {
		for _, some := range [][]api.Prefix{u.Gone, u.Nlri} {
			for i := range some[:cap(some)] {
				some[:cap(some)][i] = api.Prefix{Addr: 99, Len: 99}
			}
		}
		fill(u.Attrs)
	}
}

// Rule R4: nothing is changed or shared, spare room included.
func TestDeltaSharesNothing(t *testing.T) {
	lists := func() (old, fresh []Told) {
		old = append(from(0, 250), from(900, 20)...)
		fresh = from(200, 100)
		// The same attributes, told of many: none of the answers may share them.
		for i := range fresh {
			fresh[i].Attrs = fresh[0].Attrs
		}
		return old, append(fresh, at(900, withMed(3)), at(901))
	}
	oldRoom, freshRoom := lists()
	old, fresh := oldRoom[:len(oldRoom)-9], freshRoom[:len(freshRoom)-1]
	before := textsOf(oldRoom) + textsOf(freshRoom)
	want := texts(Delta(old, fresh))
	for i := range Delta(old, fresh) {
		got, again := Delta(old, fresh), Delta(old, fresh)
		fillAll(got[i])
		got[i] = again[i]
		if texts(got) != want || texts(again) != want {
			t.Fatalf("Update %d shares memory with another one", i)
		}
	}
	got := Delta(old, fresh)
	fillAll(Delta(old, fresh)...)
	if after := textsOf(oldRoom) + textsOf(freshRoom); after != before {
		t.Fatalf("what was handed in is changed by what was answered")
	}
	for _, list := range [][]Told{oldRoom, freshRoom} {
		for i := range list {
			fill(list[i].Attrs)
			list[i] = Told{}
		}
	}
	if texts(got) != want {
		t.Fatalf("what was answered is changed by what was handed in")
	}
}

// byWord tells the chapter's sentence a second time: each prefix is held against each of the other list.
func byWord(old, fresh []Told) []api.Update {
	find := func(list []Told, p api.Prefix) int {
		return slices.IndexFunc(list, func(x Told) bool { return prefix.Compare(x.Prefix, p) == 0 })
	}
	var gone []api.Prefix
	for _, x := range old {
		if find(fresh, x.Prefix) < 0 {
			gone = append(gone, x.Prefix)
		}
	}
	var list []api.Update
	for some := range slices.Chunk(gone, 100) {
		list = append(list, api.Update{Gone: some})
	}
	for _, x := range fresh {
		if i := find(old, x.Prefix); i < 0 || !attr.Same(old[i].Attrs, x.Attrs) {
			list = append(list, newOf(x))
		}
	}
	return list
}

// hear answers what a peer knows, that was told old, behind the Updates.
func hear(old []Told, list []api.Update) []Told {
	known := map[api.Prefix]api.Attrs{}
	for _, x := range old {
		known[x.Prefix] = x.Attrs
	}
	for _, u := range list {
		for _, p := range u.Gone {
			delete(known, p)
		}
		for _, p := range u.Nlri {
			known[p] = u.Attrs
		}
	}
	var now []Told
	for p, a := range known {
		now = append(now, Told{Prefix: p, Attrs: a})
	}
	slices.SortFunc(now, func(x, y Told) int { return prefix.Compare(x.Prefix, y.Prefix) })
	return now
}

// anyTold answers what is told of some prefixes, of n of them at most.
func anyTold(source *rand.Rand, n int) []Told {
	often, changes := source.Intn(5), otherWise()
	var list []Told
	for i := range n {
		if source.Intn(4) >= often {
			continue
		}
		x := at(i)
		if source.Intn(10) == 0 {
			x = at(i, changes[source.Intn(len(changes))])
		}
		list = append(list, x)
	}
	return list
}

func TestDeltaAsTheSentenceSays(t *testing.T) {
	source := rand.New(rand.NewSource(116))
	several := 0
	for range 100 {
		n := source.Intn(400)
		old, fresh := anyTold(source, n), anyTold(source, n)
		want := byWord(old, fresh)
		mustDelta(t, old, fresh, want...)
		if now := hear(old, want); textsOf(now) != textsOf(fresh) {
			t.Fatalf("a peer knows\n%swant\n%s", textsOf(now), textsOf(fresh))
		}
		if len(want) > 1 && len(want[1].Gone) > 0 {
			several++
		}
	}
	if several < 15 {
		t.Errorf("only %d times more than a hundred were gone", several)
	}
}

// Rule R1: lists in any order, and prefixes that stand there twice, are answered, too.
func TestAnyLists(t *testing.T) {
	source := rand.New(rand.NewSource(1116))
	for range 200 {
		var lists [2][]Told
		for i := range lists {
			for range source.Intn(300) {
				lists[i] = append(lists[i], at(source.Intn(200), withMed(source.Intn(3))))
			}
		}
		isThere := func(list []Told, p api.Prefix) bool { return slices.Contains(prefixes(list), p) }
		for _, u := range Delta(lists[0], lists[1]) {
			if len(u.Gone) > 100 || len(u.Nlri) > 1 || (len(u.Gone) == 0) == (len(u.Nlri) == 0) {
				t.Fatalf("%s", texts([]api.Update{u}))
			}
			for _, p := range u.Gone {
				if !isThere(lists[0], p) || isThere(lists[1], p) {
					t.Fatalf("%+v is gone", p)
				}
			}
			for _, p := range u.Nlri {
				if !isThere(lists[1], p) {
					t.Fatalf("%+v is new", p)
				}
			}
		}
	}
}

// Rule R5: nothing is kept from call to call.
func TestNothingIsKept(t *testing.T) {
	old, fresh := from(0, 150), from(100, 80)
	want := texts(Delta(old, fresh))
	Delta(fresh, old)
	Delta(nil, old)
	if got := texts(Delta(old, fresh)); got != want {
		t.Fatalf("%s, then %s", want, got)
	}
}

// Whoever goes through less than all is given no more.
func TestGoingThroughSome(t *testing.T) {
	old, fresh := from(0, 350), from(350, 10)
	seen := 0
	for some := range inHundreds(without(old, fresh)) {
		if seen++; len(some) != 100 {
			t.Errorf("%d", len(some))
		}
		if seen == 2 {
			break
		}
	}
	for range unlike(old, fresh) {
		seen++
		break
	}
	for range without(old, fresh) {
		seen++
		break
	}
	if seen != 4 {
		t.Errorf("%d", seen)
	}
}

// Many prefixes are no more than a few: each is looked up, not searched for.
func TestMany(t *testing.T) {
	const n = 100000
	list := func(first int) []Told {
		var all []Told
		for i := range n {
			all = append(all, Told{Prefix: api.Prefix{Addr: uint32(first+i) << 8, Len: 24}, Attrs: api.Attrs{Med: i + first}})
		}
		return all
	}
	got := Delta(list(0), list(n/2))
	if len(got) != n/2/100+n/2 || got[0].Gone[0].Addr != 0 || got[len(got)-1].Nlri[0].Addr != (n+n/2-1)<<8 {
		t.Errorf("%d", len(got))
	}
}
