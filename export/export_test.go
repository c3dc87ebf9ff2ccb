package export

import (
	"fmt"
	"math"
	"math/rand"
	"slices"
	"strings"
	"testing"

	"interregnum/api"
	"interregnum/attr"
	"interregnum/policy"
)

const (
	us   = 65001 // our AS wherever a test does not take another
	them = 70000 // another AS
	ourN = 0x0a000009
)

// someNumbers are numbers at the ends of what a byte, a sign or 32 bits tell, and beside them.
var someNumbers = []int{math.MinInt, math.MinInt32, -1 << 32, -257, -2, -1, 0, 1, 2, 3, 100, 255, 256, 258, us, them, math.MaxInt32, 1<<32 - 1, 1 << 32, 1<<32 + 2, 1<<32 + us, math.MaxInt}

// ten is the prefix of full routes.
var ten = api.Prefix{Addr: 0x0a010000, Len: 16}

// ours answers how we are set up.
func ours() api.Config {
	return api.Config{AS: us, ID: 7, Next: ourN, Hold: 90, GRTime: 120, LLTime: 1000, StaleTime: 60, Defer: 5}
}

// outer answers a peer of another AS, inner one of ours.
func outer() api.PeerConf { return api.PeerConf{Num: 1, AS: them} }
func inner() api.PeerConf { return api.PeerConf{Num: 2, AS: us} }

// full answers a route with something in each field, and in each list more than one.
func full(changes ...func(a *api.Attrs)) api.Route {
	r := api.Route{
		Prefix: ten,
		Peer:   3,
		Attrs: api.Attrs{
			Origin: 1,
			Path:   []api.Segment{{AS: []int{80000, 4, 5}}, {Set: true, AS: []int{6, 7}}, {AS: []int{8}}},
			Next:   0x0a000001,
			Med:    50,
			Pref:   200,
			Comms:  []uint32{8, 0xffff0005, 9},
			Raws:   []api.Raw{{Flags: 0x40, Type: 6}, {Flags: 0xe0, Type: 20, Data: []byte("abc")}, {Flags: 0xe0, Type: 21, Data: []byte("d")}},
		},
	}
	for _, change := range changes {
		change(&r.Attrs)
	}
	return r
}

// withPath answers the change to that path.
func withPath(p ...api.Segment) func(a *api.Attrs) { return func(a *api.Attrs) { a.Path = p } }
func withNext(n uint32) func(a *api.Attrs)         { return func(a *api.Attrs) { a.Next = n } }
func withMed(n int) func(a *api.Attrs)             { return func(a *api.Attrs) { a.Med = n } }
func withPref(n int) func(a *api.Attrs)            { return func(a *api.Attrs) { a.Pref = n } }

// sequence answers a segment whose order counts, set another one.
func sequence(as ...int) api.Segment { return api.Segment{AS: as} }
func set(as ...int) api.Segment      { return api.Segment{Set: true, AS: as} }

// numbers answers n of them, from 1 on.
func numbers(n int) []int {
	list := make([]int, n)
	for i := range list {
		list[i] = i + 1
	}
	return list
}

// text answers a as a text: two texts are the same just if all is the same, nil or empty.
func text(a api.Attrs) string {
	var s strings.Builder
	fmt.Fprint(&s, a.Origin, " ", a.Next, " ", a.Med, " ", a.Pref)
	for _, x := range a.Path {
		fmt.Fprint(&s, " segment ", x.Set, len(x.AS))
		for _, as := range x.AS {
			fmt.Fprint(&s, " ", as)
		}
	}
	for _, x := range a.Comms {
		fmt.Fprint(&s, " community ", x)
	}
	for _, x := range a.Raws {
		fmt.Fprintf(&s, " raw %d %d %x", x.Flags, x.Type, x.Data)
	}
	return s.String()
}

// ask is what Export is asked of.
type ask struct {
	c    api.Config
	to   api.PeerConf
	ll   bool
	r    api.Route
	from int
}

// of answers what is asked of r, to a peer, by ours(), of another AS than all.
func of(to api.PeerConf, r api.Route) ask {
	return ask{c: ours(), to: to, r: r, from: 80000}
}

func (x ask) export() (api.Attrs, bool) {
	return Export(x.c, x.to, x.ll, x.r, x.from)
}

func mustTell(t *testing.T, x ask, want api.Attrs) {
	t.Helper()
	before := fmt.Sprintf("%+v", x)
	got, ok := x.export()
	if !ok || text(got) != text(want) {
		t.Fatalf("Export of %s: %s, %v\nwant %s", before, text(got), ok, text(want))
	}
	if after := fmt.Sprintf("%+v", x); after != before {
		t.Fatalf("%s\nbecame %s", before, after)
	}
}

func mustTellSome(t *testing.T, x ask) {
	t.Helper()
	if got, ok := x.export(); !ok {
		t.Fatalf("Export of %+v: %s, %v", x, text(got), ok)
	}
}

// Rule R3: beside a false the attributes are zero.
func mustNotTell(t *testing.T, x ask) {
	t.Helper()
	got, ok := x.export()
	if ok || text(got) != text(api.Attrs{}) || len(got.Path)+len(got.Comms)+len(got.Raws) != 0 {
		t.Fatalf("Export of %+v: %s, %v", x, text(got), ok)
	}
}

func TestToAnotherAS(t *testing.T) {
	want := full(withPath(sequence(us, 80000, 4, 5), set(6, 7), sequence(8)), withNext(ourN), withMed(-1), withPref(-1)).Attrs
	mustTell(t, of(outer(), full()), want)
	for _, as := range someNumbers {
		if as != us {
			mustTell(t, of(api.PeerConf{Num: 1, AS: as}, full()), want)
		}
	}
}

func TestToOurs(t *testing.T) {
	mustTell(t, of(inner(), full()), full().Attrs)
	for _, as := range []int{1, 2, 255, 65535, 65536, 1<<32 - 1, 0, -1, 1 << 32, math.MinInt, math.MaxInt} {
		x := of(api.PeerConf{Num: 2, AS: as}, full())
		x.c.AS = as
		mustTell(t, x, full().Attrs)
	}
}

// A peer is not told its own routes, static ones of its number neither.
func TestNotToItself(t *testing.T) {
	for _, to := range someNumbers {
		for _, peer := range someNumbers {
			for _, as := range []int{us, them} {
				r := full()
				r.Peer = peer
				x := of(api.PeerConf{Num: to, AS: as}, r)
				if to == peer {
					mustNotTell(t, x)
				} else {
					mustTellSome(t, x)
				}
			}
		}
	}
}

// What one of ours told goes to none of ours; static routes go to all.
func TestNotAmongOurs(t *testing.T) {
	for _, peer := range someNumbers {
		for _, from := range someNumbers {
			for _, to := range []int{us, them, 0, 1<<32 + us} {
				r := full()
				r.Peer = peer
				x := ask{c: ours(), to: api.PeerConf{Num: 77, AS: to}, r: r, from: from}
				if peer >= 0 && from == us && to == us {
					mustNotTell(t, x)
				} else {
					mustTellSome(t, x)
				}
			}
		}
	}
	// It is c's AS that counts.
	x := ask{c: ours(), to: outer(), r: full(), from: them}
	mustTellSome(t, x)
	x.c.AS = them
	mustNotTell(t, x)
}

// rule answers one that speaks of all that p covers.
func rule(p api.Prefix, change func(r *api.Rule)) api.Rule {
	r := api.Rule{Prefix: p, Max: 32, Pref: -1}
	change(&r)
	return r
}

func deny(r *api.Rule)  { r.Deny = true }
func allow(r *api.Rule) {}

func TestPolicy(t *testing.T) {
	wide, other := api.Prefix{Addr: 0x0a000000, Len: 8}, api.Prefix{Addr: 0x0b000000, Len: 8}
	denied := [][]api.Rule{
		{rule(ten, deny)},
		{rule(wide, deny)},
		{rule(api.Prefix{}, deny)},
		{rule(other, allow), rule(wide, deny), rule(ten, allow)},
		{rule(wide, func(r *api.Rule) { r.Deny, r.Min, r.Max = true, 16, 16 })},
		{rule(wide, func(r *api.Rule) { r.Deny, r.Pref = true, 500 })},
	}
	allowed := [][]api.Rule{
		nil,
		{},
		{rule(ten, allow)},
		{rule(other, deny)},
		{rule(ten, allow), rule(ten, deny)},
		{rule(wide, func(r *api.Rule) { r.Deny, r.Min, r.Max = true, 17, 32 })},
		{rule(wide, func(r *api.Rule) { r.Deny, r.Min, r.Max = true, 0, 15 })},
		{rule(api.Prefix{Addr: 0x0a010000, Len: 17}, deny)},
		{rule(api.Prefix{Addr: 0x0a010001, Len: 16}, deny)},
	}
	for _, to := range []api.PeerConf{outer(), inner()} {
		for _, rules := range denied {
			to.Out = rules
			mustNotTell(t, of(to, full()))
		}
		for _, rules := range allowed {
			to.Out = rules
			mustTellSome(t, of(to, full()))
		}
		// What comes in is another thing.
		to.Out, to.In = nil, denied[0]
		mustTellSome(t, of(to, full()))
		// Static routes are asked, too.
		static := full()
		static.Peer = -1
		mustTellSome(t, of(to, static))
		to.In, to.Out = nil, denied[0]
		mustNotTell(t, of(to, static))
	}
	// Of a prefix that is not right no rule speaks.
	to := outer()
	to.Out = []api.Rule{rule(api.Prefix{}, deny)}
	for _, p := range []api.Prefix{{Len: -1}, {Len: 33}, {Addr: 0x0a010001, Len: 16}, {Len: math.MinInt}, {Len: math.MaxInt}} {
		r := full()
		r.Prefix = p
		mustTellSome(t, of(to, r))
	}
}

func TestPrefOfTheRuleDoesNotCount(t *testing.T) {
	bare := full(withPref(-1))
	for _, pref := range someNumbers {
		out := []api.Rule{rule(ten, func(r *api.Rule) { r.Pref = pref })}
		toThem, toUs := outer(), inner()
		toThem.Out, toUs.Out = out, out
		want, _ := of(outer(), full()).export()
		mustTell(t, of(toThem, full()), want)
		mustTell(t, of(toUs, full()), full().Attrs)
		mustTell(t, of(toUs, bare), full(withPref(100)).Attrs)
	}
}

func TestStale(t *testing.T) {
	for _, to := range []api.PeerConf{outer(), inner()} {
		want, _ := of(to, full()).export()
		for _, stale := range someNumbers {
			r := full()
			r.Stale = stale
			x := of(to, r)
			if stale == 2 {
				mustNotTell(t, x)
			} else {
				mustTell(t, x, want)
			}
			x.ll = true
			mustTell(t, x, want)
		}
		// The communities do not count, and stay.
		marked := full(func(a *api.Attrs) { a.Comms = []uint32{api.LLGRStale, api.NoLLGR} })
		if a, ok := of(to, marked).export(); !ok || !slices.Equal(a.Comms, marked.Attrs.Comms) {
			t.Errorf("%s, %v", text(a), ok)
		}
	}
}

func TestPathToAnotherAS(t *testing.T) {
	most := numbers(64)
	for _, x := range []struct{ p, want []api.Segment }{
		{nil, []api.Segment{sequence(us)}},
		{[]api.Segment{}, []api.Segment{sequence(us)}},
		{[]api.Segment{sequence(3)}, []api.Segment{sequence(us, 3)}},
		{[]api.Segment{sequence(us, us)}, []api.Segment{sequence(us, us, us)}},
		{[]api.Segment{set(3, 4)}, []api.Segment{sequence(us), set(3, 4)}},
		{[]api.Segment{sequence(3), sequence(4)}, []api.Segment{sequence(us, 3), sequence(4)}},
		{[]api.Segment{sequence(most[1:]...)}, []api.Segment{sequence(append([]int{us}, most[1:]...)...)}},
		{[]api.Segment{set(most[1:]...)}, []api.Segment{sequence(us), set(most[1:]...)}},
		{[]api.Segment{sequence(3), set(most[2:]...)}, []api.Segment{sequence(us, 3), set(most[2:]...)}},
		// With us ahead it is a good one.
		{[]api.Segment{{}}, []api.Segment{sequence(us)}},
	} {
		mustTell(t, of(outer(), full(withPath(x.p...))), full(withPath(x.want...), withNext(ourN), withMed(-1), withPref(-1)).Attrs)
	}
	for _, p := range [][]api.Segment{
		{sequence(most...)}, {set(most...)}, {sequence(3), set(most[1:]...)}, {sequence(numbers(254)...)}, {sequence(numbers(255)...)}, {sequence(numbers(256)...)},
		{sequence(0)}, {sequence(3, 1<<32)}, {set(-1)}, {set()}, {sequence(3), {}}, {sequence(3), set(0)},
	} {
		mustNotTell(t, of(outer(), full(withPath(p...))))
	}
}

func TestPathToOurs(t *testing.T) {
	most := numbers(64)
	for _, p := range [][]api.Segment{nil, {}, {sequence(3)}, {set(3, 4)}, {sequence(us)}, {sequence(most...)}, {set(most...)}, {sequence(3), set(most[1:]...)}, {sequence(1<<32 - 1)}} {
		mustTell(t, of(inner(), full(withPath(p...))), full(withPath(p...)).Attrs)
	}
	for _, p := range [][]api.Segment{{{}}, {sequence(numbers(65)...)}, {set(most...), sequence(3)}, {sequence(0)}, {sequence(1 << 32)}, {set()}, {sequence(3), set(-1)}} {
		mustNotTell(t, of(inner(), full(withPath(p...))))
	}
}

// Our own number has to be one that a path may have, but only where it is told.
func TestOurNumber(t *testing.T) {
	for _, as := range someNumbers {
		x := of(api.PeerConf{Num: 2, AS: as}, full())
		x.c.AS = as
		mustTell(t, x, full().Attrs)
		x.to.AS = as ^ 1
		if as < 1 || as > 1<<32-1 {
			mustNotTell(t, x)
			continue
		}
		mustTell(t, x, full(withPath(sequence(as, 80000, 4, 5), set(6, 7), sequence(8)), withNext(ourN), withMed(-1), withPref(-1)).Attrs)
	}
}

func TestNext(t *testing.T) {
	good := []uint32{1, 0x0a000001, 0x7effffff, 0x80000000, 0xdfffffff}
	bad := []uint32{0, 0x7f000000, 0x7f000001, 0x7fffffff, 0xe0000000, 0xffffffff}
	for _, theirs := range slices.Concat(good, bad) {
		for _, own := range slices.Concat(good, bad) {
			toThem, toUs := of(outer(), full(withNext(theirs))), of(inner(), full(withNext(theirs)))
			toThem.c.Next, toUs.c.Next = own, own
			if got, ok := toThem.export(); ok != slices.Contains(good, own) || ok && got.Next != own {
				t.Errorf("to another AS, of %x and ours %x: %x, %v", theirs, own, got.Next, ok)
			}
			if got, ok := toUs.export(); ok != slices.Contains(good, theirs) || ok && got.Next != theirs {
				t.Errorf("to ours, of %x and ours %x: %x, %v", theirs, own, got.Next, ok)
			}
		}
	}
	// A static one's stays, too, to ours.
	r := full()
	r.Peer = -1
	mustTell(t, of(inner(), r), full().Attrs)
}

func TestMedAndPref(t *testing.T) {
	isGood := func(n int) bool { return n >= -1 && n <= 1<<32-1 }
	for _, med := range someNumbers {
		for _, pref := range someNumbers {
			r := full(withMed(med), withPref(pref))
			if a, ok := of(outer(), r).export(); !ok || a.Med != -1 || a.Pref != -1 {
				t.Errorf("to another AS, of %d and %d: %d and %d, %v", med, pref, a.Med, a.Pref, ok)
			}
			if !isGood(med) || !isGood(pref) {
				mustNotTell(t, of(inner(), r))
				continue
			}
			want := pref
			if pref == -1 {
				want = 100
			}
			mustTell(t, of(inner(), r), full(withMed(med), withPref(want)).Attrs)
		}
	}
}

// What else there is goes on as it is, if it is good.
func TestTheRest(t *testing.T) {
	comms := make([]uint32, 33)
	long := []byte(strings.Repeat("x", 256))
	raws := func(list ...api.Raw) func(a *api.Attrs) { return func(a *api.Attrs) { a.Raws = list } }
	good := []func(a *api.Attrs){
		func(a *api.Attrs) { a.Origin = 0 },
		func(a *api.Attrs) { a.Origin = 2 },
		func(a *api.Attrs) { a.Comms = nil },
		func(a *api.Attrs) { a.Comms = comms[:32] },
		raws(),
		raws(api.Raw{Flags: 0x40, Type: 6}, api.Raw{Flags: 0xc0, Type: 7, Data: long[:8]}, api.Raw{Flags: 0xe0, Type: 255, Data: long[:255]}),
	}
	bad := []func(a *api.Attrs){
		func(a *api.Attrs) { a.Origin = -1 },
		func(a *api.Attrs) { a.Origin = 3 },
		func(a *api.Attrs) { a.Comms = comms },
		raws(api.Raw{Flags: 0x80, Type: 9}),
		raws(api.Raw{Flags: 0xe0, Type: 9, Data: long}),
		raws(api.Raw{Flags: 0xe0, Type: 10}, api.Raw{Flags: 0xe0, Type: 9}),
	}
	for _, change := range good {
		mustTell(t, of(inner(), full(change)), full(change).Attrs)
		want := full(change, withPath(sequence(us, 80000, 4, 5), set(6, 7), sequence(8)), withNext(ourN), withMed(-1), withPref(-1))
		mustTell(t, of(outer(), full(change)), want.Attrs)
	}
	for _, change := range bad {
		mustNotTell(t, of(inner(), full(change)))
		mustNotTell(t, of(outer(), full(change)))
	}
}

// All else of how we are set up does not count.
func TestWhatDoesNotCount(t *testing.T) {
	for _, to := range []api.PeerConf{outer(), inner()} {
		want, _ := of(to, full()).export()
		x := of(to, full())
		x.c = api.Config{AS: us, Next: ourN, Hold: -1, GRTime: math.MinInt, LLTime: math.MaxInt, StaleTime: -5, Defer: 1 << 50}
		x.r.Prefix = api.Prefix{Addr: 5, Len: 99}
		mustTell(t, x, want)
	}
	mustNotTell(t, ask{})
	mustNotTell(t, ask{to: api.PeerConf{Num: 1, AS: 1}})
}

// Nobody else's AS is nearer for being the same as the peer's.
func TestFromThePeersAS(t *testing.T) {
	x := of(outer(), full())
	want, _ := x.export()
	x.from = them
	mustTell(t, x, want)
	x.r.Attrs.Path = []api.Segment{sequence(them, us)}
	mustTellSome(t, x)
}

// fill changes everything in the lists of a, spare room included.
func fill(a api.Attrs) {
	for i, s := range a.Path[:cap(a.Path)] {
		for k := range s.AS[:cap(s.AS)] {
			s.AS[:cap(s.AS)][k] = 99
		}
		a.Path[:cap(a.Path)][i] = api.Segment{Set: true}
	}
	for i := range a.Comms[:cap(a.Comms)] {
		a.Comms[:cap(a.Comms)][i] = 99
	}
	for i, r := range a.Raws[:cap(a.Raws)] {
		for k := range r.Data[:cap(r.Data)] {
			r.Data[:cap(r.Data)][k] = 99
		}
		a.Raws[:cap(a.Raws)][i] = api.Raw{Type: 99}
	}
}

// roomy answers a full route whose lists have spare room, and the same lists with that room as parts of them.
func roomy() (r api.Route, room api.Attrs) {
	r = full()
	room = full().Attrs
	room.Path = append(room.Path, sequence(1, 2))
	for i := range room.Path {
		room.Path[i].AS = append(room.Path[i].AS, 11, 12)
	}
	room.Comms = append(room.Comms, 13, 14)
	room.Raws = append(room.Raws, api.Raw{Type: 15, Data: []byte("e")})
	for i := range room.Raws {
		room.Raws[i].Data = append(room.Raws[i].Data, "fg"...)
	}
	lens := r.Attrs
	r.Attrs.Path = slices.Clip(slices.Clone(room.Path))[:len(lens.Path)]
	for i := range r.Attrs.Path {
		r.Attrs.Path[i].AS = room.Path[i].AS[:len(lens.Path[i].AS)]
	}
	r.Attrs.Comms = room.Comms[:len(lens.Comms)]
	r.Attrs.Raws = slices.Clip(slices.Clone(room.Raws))[:len(lens.Raws)]
	for i := range r.Attrs.Raws {
		r.Attrs.Raws[i].Data = room.Raws[i].Data[:len(lens.Raws[i].Data)]
	}
	return r, room
}

// Rule R4: nothing that is handed in is changed or shared, spare room included.
func TestExportSharesNothing(t *testing.T) {
	for _, to := range []api.PeerConf{outer(), inner()} {
		want, _ := of(to, full()).export()
		r, room := roomy()
		before := text(room) + text(r.Attrs)
		first, _ := of(to, r).export()
		second, _ := of(to, r).export()
		fill(first)
		if after := text(room) + text(r.Attrs); after != before {
			t.Fatalf("%s\nbecame %s", before, after)
		}
		if text(second) != text(want) {
			t.Fatalf("two answers share memory: %s", text(second))
		}
		fill(r.Attrs)
		fill(room)
		if text(second) != text(want) {
			t.Fatalf("the answer shares memory with what was handed in: %s", text(second))
		}
	}
}

// byWord tells the chapter's sentence a second time.
func (x ask) byWord() (api.Attrs, string) {
	switch _, ok := policy.Apply(x.to.Out, x.r.Prefix); {
	case x.r.Peer == x.to.Num:
		return api.Attrs{}, "itself"
	case x.r.Peer > -1 && x.from == x.c.AS && x.c.AS == x.to.AS:
		return api.Attrs{}, "ours"
	case !ok:
		return api.Attrs{}, "policy"
	case x.r.Stale == 2 && !x.ll:
		return api.Attrs{}, "stale"
	}
	a, told := x.r.Attrs, "to ours"
	if x.to.AS != x.c.AS {
		told = "to others"
		a.Next, a.Med, a.Pref = x.c.Next, -1, -1
		if len(a.Path) > 0 && !a.Path[0].Set && len(a.Path[0].AS) < 255 {
			a.Path = slices.Concat([]api.Segment{sequence(slices.Concat([]int{x.c.AS}, a.Path[0].AS)...)}, a.Path[1:])
		} else {
			a.Path = slices.Concat([]api.Segment{sequence(x.c.AS)}, a.Path)
		}
	} else if a.Pref == -1 {
		a.Pref = 100
	}
	if !attr.Good(a) {
		return api.Attrs{}, "not good"
	}
	return a, told
}

// oneOf answers one of list, most often the first.
func oneOf[T any](source *rand.Rand, list ...T) T {
	if source.Intn(3) > 0 {
		return list[0]
	}
	return list[source.Intn(len(list))]
}

func anyPath(source *rand.Rand) []api.Segment {
	var p []api.Segment
	for range source.Intn(3) {
		p = append(p, api.Segment{Set: source.Intn(3) == 0, AS: numbers(oneOf(source, 2, 1, 0, 31, 32, 61, 63, 64, 254, 255))})
	}
	return p
}

func anyAsk(source *rand.Rand) ask {
	x := ask{
		c:    api.Config{AS: oneOf(source, us, them, 1, 0, 1<<32-1, 1<<32), Next: oneOf[uint32](source, ourN, ourN, 0, 0x7f000001)},
		to:   api.PeerConf{Num: oneOf(source, 2, 3, -1), AS: oneOf(source, us, them, 1, 0)},
		ll:   source.Intn(2) == 0,
		from: oneOf(source, us, them, 1, 80000),
	}
	for range source.Intn(3) {
		p := api.Prefix{Addr: oneOf[uint32](source, 0x0a010000, 0x0a010000, 0x0b000000), Len: oneOf(source, 16, 24, 15)}
		x.to.Out = append(x.to.Out, api.Rule{Prefix: p, Max: oneOf(source, 32, 20), Deny: source.Intn(3) == 0, Pref: oneOf(source, -1, 7, 100)})
	}
	x.r = full(withPath(anyPath(source)...), withNext(oneOf[uint32](source, 1, 1, 0, 0xe0000000)), withMed(oneOf(source, 5, -1, -2, 1<<32-1, 1<<32)), withPref(oneOf(source, 5, -1, -1, -2, 0, 1<<32)))
	x.r.Peer, x.r.Stale = oneOf(source, 3, 2, 0, -1, -2), oneOf(source, 0, 1, 2, 2, 3)
	x.r.Prefix.Len = oneOf(source, 16, 24, 32)
	x.r.Attrs.Origin = oneOf(source, 0, 0, 1, 2, 3)
	return x
}

func TestExportAsTheSentenceSays(t *testing.T) {
	source := rand.New(rand.NewSource(16))
	count := map[string]int{}
	for range 40000 {
		x := anyAsk(source)
		want, why := x.byWord()
		count[why]++
		if strings.HasPrefix(why, "to ") {
			mustTell(t, x, want)
		} else {
			mustNotTell(t, x)
		}
	}
	for _, why := range []string{"itself", "ours", "policy", "stale", "not good", "to ours", "to others"} {
		if count[why] < 500 {
			t.Errorf("%s: only %d times", why, count[why])
		}
	}
}
