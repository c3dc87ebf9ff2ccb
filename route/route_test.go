package route

import (
	"fmt"
	"math"
	"math/rand"
	"slices"
	"strings"
	"testing"

	"interregnum/api"
)

// The communities, by the numbers that DOC.md gives.
const (
	lived   = 0xffff0006
	notLong = 0xffff0007
)

// someStales are values of Stale: those that mean something, and those that a byte, a sign or 32 bits would make a 2 of.
var someStales = []int{0, 1, 2, 3, 4, -1, -2, 127, 256, 258, 1<<16 + 2, 1<<32 + 2, math.MinInt32, math.MaxInt32, math.MinInt, math.MinInt + 2, math.MaxInt}

// full answers a route with something in each field, and in each list more than one.
func full() api.Route {
	return api.Route{
		Prefix: api.Prefix{Addr: 0x0a010000, Len: 16},
		Peer:   3,
		Attrs: api.Attrs{
			Origin: 1,
			Path:   []api.Segment{{AS: []int{70000, 2, 3}}, {Set: true, AS: []int{5, 6}}, {AS: []int{7}}},
			Next:   0x0a000001,
			Med:    50,
			Pref:   200,
			Comms:  []uint32{8, 0xffff0005, 9},
			Raws:   []api.Raw{{Flags: 0x40, Type: 6}, {Flags: 0xe0, Type: 20, Data: []byte("abc")}, {Flags: 0xe0, Type: 21, Data: []byte("d")}},
		},
		Stale: 1,
	}
}

// told answers r as a text: two texts are the same just if all is the same, nil or empty.
func told(r api.Route) string {
	var s strings.Builder
	a := r.Attrs
	fmt.Fprint(&s, r.Prefix.Addr, "/", r.Prefix.Len, " ", r.Peer, " ", r.Stale, " ", a.Origin, " ", a.Next, " ", a.Med, " ", a.Pref)
	for _, x := range a.Path {
		fmt.Fprint(&s, " segment ", x.Set, len(x.AS))
		for _, as := range x.AS {
			fmt.Fprint(&s, " ", as)
		}
	}
	for _, x := range a.Comms {
		fmt.Fprint(&s, " community ", x)
	}
	for _, x := range a.Raws {
		fmt.Fprintf(&s, " raw %d %d %x", x.Flags, x.Type, x.Data)
	}
	return s.String()
}

func mustBe(t *testing.T, got, want api.Route) {
	t.Helper()
	if told(got) != told(want) {
		t.Fatalf("%s\nwant %s", told(got), told(want))
	}
}

func mustBeSame(t *testing.T, a, b api.Route, want bool) {
	t.Helper()
	if Same(a, b) != want || Same(b, a) != want {
		t.Fatalf("%v, %v, want %v:\n%s\n%s", Same(a, b), Same(b, a), want, told(a), told(b))
	}
}

func mustMark(t *testing.T, r api.Route, stale int, want api.Route) {
	t.Helper()
	before := told(r)
	got, ok := Mark(r, stale)
	if !ok || told(got) != told(want) || told(r) != before {
		t.Fatalf("Mark(%s, %d): %s, %v\nwant %s", before, stale, told(got), ok, told(want))
	}
}

func mustNotMark(t *testing.T, r api.Route, stale int) {
	t.Helper()
	before := told(r)
	got, ok := Mark(r, stale)
	if ok || told(got) != told(api.Route{}) || told(r) != before {
		t.Fatalf("Mark(%s, %d): %s, %v", before, stale, told(got), ok)
	}
}

// with answers a full route with those communities.
func with(comms ...uint32) api.Route {
	r := full()
	r.Attrs.Comms = comms
	return r
}

// numbered answers n communities that mean nothing.
func numbered(n int) []uint32 {
	list := make([]uint32, n)
	for i := range list {
		list[i] = uint32(0xffff0000 + i*0x100)
	}
	return list
}

func TestTheChaptersExample(t *testing.T) {
	fresh := full()
	fresh.Stale = 0
	for _, stale := range someStales {
		r := full()
		r.Stale = stale
		mustMark(t, r, 0, fresh)
	}
}

// otherRoutes answers routes that are, each in one thing, others than full().
func otherRoutes() []api.Route {
	var list []api.Route
	for _, turn := range []func(r *api.Route){
		func(r *api.Route) { r.Prefix.Addr++ },
		func(r *api.Route) { r.Prefix.Addr ^= 1 << 31 },
		func(r *api.Route) { r.Prefix.Len++ },
		func(r *api.Route) { r.Prefix = api.Prefix{} },
		func(r *api.Route) { r.Peer = 4 },
		func(r *api.Route) { r.Peer = -1 },
		func(r *api.Route) { r.Peer += 1 << 32 },
		func(r *api.Route) { r.Stale = 0 },
		func(r *api.Route) { r.Stale = 2 },
		func(r *api.Route) { r.Stale += 1 << 32 },
		func(r *api.Route) { r.Attrs.Origin = 0 },
		func(r *api.Route) { r.Attrs.Next++ },
		func(r *api.Route) { r.Attrs.Med = -1 },
		func(r *api.Route) { r.Attrs.Pref = -1 },
		func(r *api.Route) { r.Attrs.Med, r.Attrs.Pref = r.Attrs.Pref, r.Attrs.Med },
		func(r *api.Route) { r.Attrs.Path = nil },
		func(r *api.Route) { r.Attrs.Path = r.Attrs.Path[:2] },
		func(r *api.Route) { r.Attrs.Path = append(r.Attrs.Path, api.Segment{}) },
		func(r *api.Route) { r.Attrs.Path[0].Set = true },
		func(r *api.Route) { r.Attrs.Path[0].AS[2]++ },
		func(r *api.Route) { r.Attrs.Path[1].AS = []int{6, 5} },
		func(r *api.Route) { r.Attrs.Path[2].AS = nil },
		func(r *api.Route) { r.Attrs.Comms = nil },
		func(r *api.Route) { r.Attrs.Comms = r.Attrs.Comms[:2] },
		func(r *api.Route) { r.Attrs.Comms = append(r.Attrs.Comms, 0) },
		func(r *api.Route) { slices.Reverse(r.Attrs.Comms) },
		func(r *api.Route) { r.Attrs.Comms[2]++ },
		func(r *api.Route) { r.Attrs.Raws = nil },
		func(r *api.Route) { r.Attrs.Raws = r.Attrs.Raws[:2] },
		func(r *api.Route) { r.Attrs.Raws = append(r.Attrs.Raws, api.Raw{}) },
		func(r *api.Route) { r.Attrs.Raws[0].Flags++ },
		func(r *api.Route) { r.Attrs.Raws[2].Type++ },
		func(r *api.Route) { r.Attrs.Raws[1].Data[2]++ },
		func(r *api.Route) { r.Attrs.Raws[2].Data = nil },
		func(r *api.Route) { slices.Reverse(r.Attrs.Raws) },
	} {
		r := full()
		turn(&r)
		list = append(list, r)
	}
	return list
}

func TestSame(t *testing.T) {
	list := append(otherRoutes(), full(), api.Route{}, Static(api.Prefix{}, 7))
	for i, a := range list {
		for j, b := range list {
			mustBeSame(t, a, b, i == j)
		}
	}
	mustBeSame(t, full(), full(), true)
}

// Nil and empty lists are the same.
func TestSameOfNilAndEmpty(t *testing.T) {
	bare := api.Route{Attrs: api.Attrs{Path: []api.Segment{{}}, Raws: []api.Raw{{}}}}
	empty := api.Route{Attrs: api.Attrs{Path: []api.Segment{{AS: []int{}}}, Comms: []uint32{}, Raws: []api.Raw{{Data: []byte{}}}}}
	mustBeSame(t, bare, empty, true)
	mustBeSame(t, api.Route{}, api.Route{Attrs: api.Attrs{Path: []api.Segment{}, Comms: []uint32{}, Raws: []api.Raw{}}}, true)
	mustBe(t, Own(empty), bare)
}

func TestOwn(t *testing.T) {
	for _, r := range append(otherRoutes(), full(), api.Route{}, api.Route{Peer: math.MinInt, Stale: math.MaxInt}) {
		mustBe(t, Own(r), r)
		mustBeSame(t, Own(r), r, true)
	}
}

func TestHas(t *testing.T) {
	ends := []uint32{0, 1, 6, 7, 0xffff, 0x10000, 0x7fffffff, 0x80000000, 0xffff0005, lived, notLong, 0xffff0008, 0xffffffff}
	for _, comm := range ends {
		if Has(api.Attrs{}, comm) || Has(api.Attrs{Comms: []uint32{}}, comm) {
			t.Errorf("%x is in none", comm)
		}
		for _, other := range ends {
			if Has(api.Attrs{Comms: []uint32{other}}, comm) != (comm == other) {
				t.Errorf("%x in %x", comm, other)
			}
		}
		for _, n := range []int{1, 2, 32, 33, 1000} {
			for _, place := range []int{0, n / 2, n - 1} {
				list := slices.Repeat([]uint32{0x12345678}, n)
				list[place] = comm
				if !Has(api.Attrs{Comms: list}, comm) || Has(api.Attrs{Comms: list}, 0x12345679) {
					t.Errorf("%x at %d of %d", comm, place, n)
				}
			}
		}
	}
}

// Communities are asked, not what else has that number.
func TestHasAsksCommunitiesAlone(t *testing.T) {
	a := api.Attrs{Origin: 2, Path: []api.Segment{{AS: []int{2}}}, Next: 2, Med: 2, Pref: 2, Raws: []api.Raw{{Flags: 2, Type: 2, Data: []byte{0, 0, 0, 2}}}}
	if Has(a, 2) {
		t.Error("2 is no community of it")
	}
	a.Comms = []uint32{2}
	if !Has(a, 2) {
		t.Error("2 is a community of it")
	}
}

func TestMarkOfOtherStales(t *testing.T) {
	for _, stale := range someStales {
		if stale == 2 {
			continue
		}
		for _, comms := range [][]uint32{nil, {1}, {lived}, {notLong}, {lived, notLong}, {1, notLong, 2}, {lived, 3, lived}, numbered(31), numbered(32), numbered(33)} {
			r := with(comms...)
			for _, was := range someStales {
				r.Stale = was
				want := with(comms...)
				want.Stale = stale
				mustMark(t, r, stale, want)
			}
		}
	}
}

func TestMarkOfTwo(t *testing.T) {
	for _, was := range someStales {
		for _, comms := range [][]uint32{nil, {1}, {lived - 1}, {notLong + 1}, {6, 7}, {3, 2, 1}, {5, 5, 5}} {
			r, want := with(comms...), with(append(slices.Clone(comms), lived)...)
			r.Stale, want.Stale = was, 2
			mustMark(t, r, 2, want)
			// Marked again it has the community once.
			mustMark(t, want, 2, want)
		}
	}
}

// A community that is there stays where it is, as often as it is.
func TestMarkOfTwoWhereItHasIt(t *testing.T) {
	for _, comms := range [][]uint32{{lived}, {lived, 1}, {1, lived, 2}, {1, lived}, {lived, lived}, {1, lived, lived, 2}} {
		want := with(comms...)
		want.Stale = 2
		mustMark(t, with(comms...), 2, want)
	}
}

func TestMarkOfTwoByHowMany(t *testing.T) {
	for n := range 70 {
		comms := numbered(n)
		want := with(comms...)
		if n < 32 {
			want = with(append(slices.Clone(comms), lived)...)
		}
		want.Stale = 2
		mustMark(t, with(comms...), 2, want)
		for _, place := range []int{0, n / 2, n} {
			there := slices.Insert(slices.Clone(comms), place, uint32(lived))
			want := with(there...)
			want.Stale = 2
			mustMark(t, with(there...), 2, want)
			// What must not live long does not, whatever else is there.
			mustNotMark(t, with(slices.Insert(slices.Clone(comms), place, uint32(notLong))...), 2)
			mustNotMark(t, with(slices.Insert(there, place, uint32(notLong))...), 2)
			mustNotMark(t, with(append(there, notLong)...), 2)
		}
	}
}

// Nothing but Stale and the communities is asked: what is not good, or static, is marked all the same.
func TestMarkOfAnyRoute(t *testing.T) {
	for _, r := range append(otherRoutes(), api.Route{}, Static(api.Prefix{Addr: 1, Len: 77}, 0), api.Route{Peer: math.MinInt, Stale: math.MaxInt, Attrs: api.Attrs{Origin: -9, Med: -9, Pref: -9}}) {
		want := Own(r)
		want.Stale = 1
		mustMark(t, r, 1, want)
		want.Stale = 2
		want.Attrs.Comms = append(want.Attrs.Comms, lived)
		mustMark(t, r, 2, want)
	}
}

func TestUsable(t *testing.T) {
	ends := []int{0, 1, 2, 255, 256, 65535, 65536, 70000, math.MaxInt32, 1 << 31, 1<<32 - 1, 1 << 32, 1<<32 + 2, -1, -2, math.MinInt32, math.MinInt, math.MaxInt}
	for _, as := range ends {
		if !Usable(api.Route{}, as) || !Usable(Static(api.Prefix{}, 7), as) || !Usable(api.Route{Attrs: api.Attrs{Path: []api.Segment{{}, {Set: true}}}}, as) {
			t.Errorf("%d is in no path", as)
		}
		for _, other := range ends {
			for place := range 4 {
				for _, set := range []bool{false, true} {
					p := []api.Segment{{AS: []int{90, 91}}, {}, {Set: set, AS: []int{92, 93, 94}}, {AS: []int{95}}}
					p[place].Set = set
					p[place].AS = append(p[place].AS, other)
					if got := Usable(api.Route{Attrs: api.Attrs{Path: p}}, as); got != (as != other) {
						t.Errorf("%d, by %+v: %v", as, p, got)
					}
				}
			}
		}
	}
}

// The path is asked, not what else has that number, nor if the route is stale.
func TestUsableAsksThePathAlone(t *testing.T) {
	r := api.Route{Prefix: api.Prefix{Addr: 2, Len: 2}, Peer: 2, Stale: 2, Attrs: api.Attrs{Origin: 2, Next: 2, Med: 2, Pref: 2, Comms: []uint32{2, notLong}, Raws: []api.Raw{{Flags: 2, Type: 2, Data: []byte{2}}}}}
	if !Usable(r, 2) {
		t.Error("2 is not in its path")
	}
	r.Attrs.Path = []api.Segment{{Set: true, AS: []int{1, 2}}}
	if Usable(r, 2) {
		t.Error("2 is in its path")
	}
}

func TestStatic(t *testing.T) {
	for _, p := range []api.Prefix{{}, {Len: 32}, {Addr: 0x0a000000, Len: 8}, {Addr: 0xffffffff, Len: 32}, {Addr: 1, Len: 8}, {Addr: 5, Len: -1}, {Len: 33}, {Addr: 7, Len: math.MinInt}, {Len: math.MaxInt}} {
		for _, next := range []uint32{0, 1, 0x0a000001, 0x7f000001, 0x80000000, 0xffffffff} {
			got := Static(p, next)
			if len(got.Attrs.Path) != 0 || len(got.Attrs.Comms) != 0 || len(got.Attrs.Raws) != 0 {
				t.Fatalf("%s", told(got))
			}
			mustBe(t, got, api.Route{Prefix: p, Peer: -1, Attrs: api.Attrs{Next: next, Med: -1, Pref: -1}})
		}
	}
}

// pick answers a route of few numbers, so that many are the same in much.
func pick(source *rand.Rand) api.Route {
	r := api.Route{Prefix: api.Prefix{Len: source.Intn(2)}, Peer: source.Intn(2), Stale: source.Intn(3)}
	for range source.Intn(3) {
		s := api.Segment{Set: source.Intn(2) == 0}
		for range source.Intn(3) {
			s.AS = append(s.AS, source.Intn(4))
		}
		r.Attrs.Path = append(r.Attrs.Path, s)
	}
	for range source.Intn(4) * source.Intn(12) {
		r.Attrs.Comms = append(r.Attrs.Comms, uint32(source.Intn(40)))
	}
	for _, comm := range []uint32{lived, notLong} {
		if source.Intn(4) == 0 {
			r.Attrs.Comms = slices.Insert(r.Attrs.Comms, source.Intn(len(r.Attrs.Comms)+1), comm)
		}
	}
	for range source.Intn(2) {
		r.Attrs.Raws = append(r.Attrs.Raws, api.Raw{Flags: 0xe0, Type: 20, Data: make([]byte, source.Intn(2))})
	}
	return r
}

// markByWord tells the chapter's sentence on Mark, by texts.
func markByWord(r api.Route, stale int) string {
	had := told(api.Route{Attrs: api.Attrs{Comms: r.Attrs.Comms}}) + " "
	hasLived, hasNotLong := strings.Contains(had, fmt.Sprint(" community ", uint32(lived), " ")), strings.Contains(had, fmt.Sprint(" community ", uint32(notLong), " "))
	if stale == 2 && hasNotLong {
		return "false"
	}
	r.Stale = stale
	if stale == 2 && !hasLived && strings.Count(had, "community") < 32 {
		r.Attrs.Comms = slices.Concat(r.Attrs.Comms, []uint32{lived})
	}
	return told(r)
}

func TestAsTheSentencesSay(t *testing.T) {
	source := rand.New(rand.NewSource(13))
	refused, longer, whole, same := 0, 0, 0, 0
	for range 20000 {
		a, b := pick(source), pick(source)
		if source.Intn(2) == 0 {
			b.Prefix, b.Peer, b.Attrs = a.Prefix, a.Peer, a.Attrs
		}
		mustBeSame(t, a, b, told(a) == told(b))
		if told(a) == told(b) {
			same++
		}
		for stale := range 4 {
			got, ok := Mark(a, stale)
			want := markByWord(a, stale)
			if ok != (want != "false") || ok && told(got) != want {
				t.Fatalf("Mark(%s, %d): %s, %v, want %s", told(a), stale, told(got), ok, want)
			}
			switch {
			case !ok:
				refused++
			case len(got.Attrs.Comms) > len(a.Attrs.Comms):
				longer++
			case stale == 2 && len(a.Attrs.Comms) >= 32:
				whole++
			}
		}
	}
	if refused < 1000 || longer < 1000 || whole < 10 || same < 1000 {
		t.Errorf("%d refused, %d longer, %d whole, %d same", refused, longer, whole, same)
	}
}

// fill puts other numbers into all that r's lists hold, spare room included.
func fill(r api.Route) {
	for _, s := range r.Attrs.Path[:cap(r.Attrs.Path)] {
		for i := range s.AS[:cap(s.AS)] {
			s.AS[:cap(s.AS)][i] = -77
		}
	}
	for _, x := range r.Attrs.Raws[:cap(r.Attrs.Raws)] {
		for i := range x.Data[:cap(x.Data)] {
			x.Data[:cap(x.Data)][i] = 77
		}
	}
	for i := range r.Attrs.Path[:cap(r.Attrs.Path)] {
		r.Attrs.Path[:cap(r.Attrs.Path)][i] = api.Segment{Set: true, AS: []int{-78}}
	}
	for i := range r.Attrs.Comms[:cap(r.Attrs.Comms)] {
		r.Attrs.Comms[:cap(r.Attrs.Comms)][i] = 79
	}
	for i := range r.Attrs.Raws[:cap(r.Attrs.Raws)] {
		r.Attrs.Raws[:cap(r.Attrs.Raws)][i] = api.Raw{Type: 80}
	}
}

// roomy answers full() in lists with spare room, and a route whose lists show that room.
func roomy() (r, room api.Route) {
	room = full()
	room.Attrs.Path = append(room.Attrs.Path, api.Segment{AS: []int{81}})
	room.Attrs.Path[2].AS = append(room.Attrs.Path[2].AS, 82)
	room.Attrs.Comms = append(room.Attrs.Comms, 83, 84)
	room.Attrs.Raws = append(room.Attrs.Raws, api.Raw{Type: 85, Data: []byte("e")})
	room.Attrs.Raws[2].Data = append(room.Attrs.Raws[2].Data, 86)
	r = room
	r.Attrs.Path, r.Attrs.Comms, r.Attrs.Raws = slices.Clone(room.Attrs.Path)[:3], room.Attrs.Comms[:3], slices.Clone(room.Attrs.Raws)[:3]
	r.Attrs.Path[2].AS = r.Attrs.Path[2].AS[:1]
	r.Attrs.Raws[2].Data = r.Attrs.Raws[2].Data[:1]
	return r, room
}

// Rule R4: what is handed in stays, spare room included; an answer shares nothing with it, nor with another answer; and, rule R5, nothing is kept.
func TestMemory(t *testing.T) {
	for name, ask := range map[string]func(r api.Route) api.Route{
		"Own": Own,
		"Mark of 0": func(r api.Route) api.Route {
			got, _ := Mark(r, 0)
			return got
		},
		"Mark of 2": func(r api.Route) api.Route {
			got, _ := Mark(r, 2)
			return got
		},
	} {
		t.Run(name, func(t *testing.T) {
			want := told(ask(full()))
			r, room := roomy()
			spare := told(room)
			got, other := ask(r), ask(r)
			if told(got) != want || told(other) != want || told(r) != told(full()) || told(room) != spare {
				t.Fatalf("%s\n%s\n%s\n%s", told(got), told(other), told(r), told(room))
			}
			fill(got)
			if told(other) != want || told(r) != told(full()) || told(room) != spare {
				t.Fatalf("filled:\n%s\n%s\n%s", told(other), told(r), told(room))
			}
			fill(r)
			fill(room)
			if told(other) != want || told(ask(full())) != want {
				t.Fatalf("filled, too:\n%s", told(other))
			}
		})
	}
}

// The lists of one answer share nothing: what is put behind one is not seen in another.
func TestListsOfOneAnswer(t *testing.T) {
	all := []int{1, 2, 3}
	data := []byte("abc")
	r := api.Route{Attrs: api.Attrs{
		Path: []api.Segment{{AS: all}, {AS: all}, {AS: all[1:]}},
		Raws: []api.Raw{{Data: data}, {Data: data[:1]}, {Data: data[1:]}},
	}}
	want := told(r)
	for _, got := range []api.Route{Own(r), must(Mark(r, 1)), must(Mark(r, 2))} {
		got.Attrs.Path[0].AS[1], got.Attrs.Raws[0].Data[1] = 9, 'x'
		_ = append(got.Attrs.Path[1].AS, 8)
		_ = append(got.Attrs.Raws[1].Data, 'y')
		if got.Attrs.Path[1].AS[1] != 2 || got.Attrs.Path[2].AS[0] != 2 || got.Attrs.Raws[2].Data[0] != 'b' || told(r) != want {
			t.Errorf("%s", told(got))
		}
	}
}

// must answers a route that was marked.
func must(r api.Route, ok bool) api.Route {
	if !ok {
		panic("not marked")
	}
	return r
}
