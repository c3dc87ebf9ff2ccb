package decide

import (
	"fmt"
	"math"
	"math/rand"
	"slices"
	"testing"

	"interregnum/api"
)

// us is our AS wherever a test does not take another.
const us = 1

// far is the end of the numbers that the chapter speaks of.
const far = 1 << 53

// some are peers: 0 to 3 of other ASes, 4 and 5 of ours; those with lower numbers have higher IDs.
var some = []Info{
	{Peer: 0, AS: 2, ID: 90}, {Peer: 1, AS: 3, ID: 80}, {Peer: 2, AS: 4, ID: 70}, {Peer: 3, AS: 5, ID: 60},
	{Peer: 4, AS: us, ID: 50}, {Peer: 5, AS: us, ID: 40},
}

// seq answers a path of one sequence.
func seq(as ...int) []api.Segment {
	return []api.Segment{{AS: as}}
}

// set answers a path of one Set.
func set(as ...int) []api.Segment {
	return []api.Segment{{Set: true, AS: as}}
}

// by answers a route of peer that is as all others are, then changed.
func by(peer int, changes ...func(r *api.Route)) api.Route {
	r := api.Route{
		Prefix: api.Prefix{Addr: 0x0a000000, Len: 8},
		Peer:   peer,
		Attrs:  api.Attrs{Path: seq(7, 8), Next: 0x0a000001, Med: -1, Pref: -1},
	}
	for _, change := range changes {
		change(&r)
	}
	return r
}

func withPref(n int) func(r *api.Route)   { return func(r *api.Route) { r.Attrs.Pref = n } }
func withMed(n int) func(r *api.Route)    { return func(r *api.Route) { r.Attrs.Med = n } }
func withOrigin(n int) func(r *api.Route) { return func(r *api.Route) { r.Attrs.Origin = n } }
func withStale(n int) func(r *api.Route)  { return func(r *api.Route) { r.Stale = n } }
func withPath(p []api.Segment) func(r *api.Route) {
	return func(r *api.Route) { r.Attrs.Path = p }
}

// mustBest asks for the best of list, and wants the place want.
func mustBest(t *testing.T, as int, infos []Info, want int, list ...api.Route) {
	t.Helper()
	if got, ok := Best(as, infos, list); got != want || !ok {
		t.Errorf("Best: %d, %v; want %d of %+v", got, ok, want, list)
	}
}

// mustWin wants better to be the best of both, whichever stands first.
func mustWin(t *testing.T, better, worse api.Route) {
	t.Helper()
	mustBest(t, us, some, 0, better, worse)
	mustBest(t, us, some, 1, worse, better)
}

// mustTie wants neither to be better: the first is the best.
func mustTie(t *testing.T, a, b api.Route) {
	t.Helper()
	mustBest(t, us, some, 0, a, b)
	mustBest(t, us, some, 0, b, a)
}

func mustNotBest(t *testing.T, as int, infos []Info, list ...api.Route) {
	t.Helper()
	if got, ok := Best(as, infos, list); got != 0 || ok {
		t.Errorf("Best: %d, %v of %+v", got, ok, list)
	}
}

func TestTheChaptersExample(t *testing.T) {
	static := api.Route{Prefix: api.Prefix{Addr: 0x0a000000, Len: 8}, Peer: -1, Attrs: api.Attrs{Next: 1, Med: -1, Pref: -1}}
	mustBest(t, us, nil, 0, static)
	mustBest(t, us, some, 0, static)
	for place := range 4 {
		list := slices.Insert([]api.Route{by(0, withPref(900)), by(1), by(4)}, place, static)
		mustBest(t, us, some, place, list...)
	}
}

func TestNone(t *testing.T) {
	mustNotBest(t, us, nil)
	mustNotBest(t, us, some)
	mustNotBest(t, 0, []Info{})
	if n, ok := Best(us, some, []api.Route{}); n != 0 || ok {
		t.Errorf("%d, %v", n, ok)
	}
}

func TestUsable(t *testing.T) {
	loops := [][]api.Segment{
		seq(us), seq(us, 7), seq(7, us), seq(7, 8, 9, us), set(us), set(7, us),
		{{AS: []int{7}}, {Set: true, AS: []int{8, us}}}, {{}, {AS: []int{7}}, {AS: []int{us}}},
	}
	for _, p := range loops {
		mustNotBest(t, us, some, by(0, withPath(p)))
		mustNotBest(t, us, some, by(-1, withPath(p)), by(0, withPath(p)), by(5, withPath(p)))
		// Whatever else it has: one that leads back to us is none, a static one neither.
		mustWin(t, by(4, withStale(2), withPref(0), withOrigin(2)), by(-1, withPath(p)))
		mustBest(t, us, some, 2, by(0, withPath(p), withPref(900)), by(1, withPath(p)), by(5))
		// It is ours that counts.
		mustBest(t, 1<<32+us, some, 0, by(0, withPath(p)))
	}
	// The path's numbers count, not the peer's.
	mustBest(t, us, some, 0, by(4))
	mustBest(t, 2, some, 0, by(0))
	mustNotBest(t, 8, some, by(0), by(-1))
	mustBest(t, -5, some, 0, by(0))
	mustNotBest(t, -5, some, by(0, withPath(seq(-5))))
	mustNotBest(t, 0, some, by(0, withPath(seq(0))))
	mustBest(t, 0, some, 0, by(0, withPath(nil)))
}

// ladder answers for each question, in the chapter's order, what makes a route better by it, and what makes it worse.
func ladder() (better, worse []func(r *api.Route)) {
	as := func(peer int) func(r *api.Route) { return func(r *api.Route) { r.Peer = peer } }
	better = []func(r *api.Route){as(-1), withStale(0), withPref(101), withPath(seq(7)), withOrigin(0), withMed(4)}
	worse = []func(r *api.Route){as(0), withStale(2), withPref(99), withPath(seq(7, 8)), withOrigin(1), withMed(5)}
	return better, worse
}

// An earlier question counts more than all later ones together.
func TestOneAfterTheOther(t *testing.T) {
	better, worse := ladder()
	for i := range better {
		a, b := by(5), by(1)
		better[i](&a)
		worse[i](&b)
		for j := i + 1; j < len(better); j++ {
			worse[j](&a)
			better[j](&b)
		}
		mustWin(t, a, b)
	}
}

// The last questions are of the peers alone: of another AS, the least ID, the least number, the first.
func TestPeersQuestions(t *testing.T) {
	infos := []Info{{Peer: 9, AS: us, ID: 1}, {Peer: 8, AS: 2, ID: 7}, {Peer: 7, AS: 3, ID: 8}, {Peer: 6, AS: 3, ID: 8}, {Peer: 5, AS: us, ID: 1}}
	order := []int{8, 6, 7, 5, 9}
	for i, a := range order {
		for _, b := range order[i+1:] {
			mustBest(t, us, infos, 0, by(a), by(b))
			mustBest(t, us, infos, 1, by(b), by(a))
		}
		mustBest(t, us, infos, 0, by(a), by(a), by(a))
		mustBest(t, us, infos, 1, by(-1, withPath(seq(us))), by(a), by(a))
	}
	mustBest(t, us, infos, 3, by(9), by(7), by(5), by(8), by(6), by(8))
}

func TestStatic(t *testing.T) {
	for _, peer := range []int{-1, -2, -1000, -far, -1<<32 + 3} {
		mustWin(t, by(peer, withStale(2), withPref(0), withPath(seq(7, 8, 9)), withOrigin(2), withMed(9)), by(0, withPref(900)))
	}
	// 0 is a peer like others.
	mustWin(t, by(1), by(0))
	// Among static ones the questions go on.
	mustWin(t, by(-1), by(-2, withStale(2)))
	mustWin(t, by(-1, withPref(101)), by(-2))
	mustWin(t, by(-2), by(-1))
	mustWin(t, by(-far), by(-far+1))
	mustBest(t, us, []Info{{Peer: -1, AS: 9, ID: 4}, {Peer: -2, AS: 9, ID: 5}}, 1, by(-2), by(-1), by(3))
}

func TestStale(t *testing.T) {
	// Only 2 counts; 1 is as good as fresh.
	for _, n := range []int{0, 1, 3, -1, -2, 256 + 2, 1<<32 + 2, math.MinInt, math.MaxInt} {
		mustWin(t, by(0, withStale(n), withPref(0)), by(1, withStale(2), withPref(900)))
		mustTie(t, by(0, withStale(n)), by(0))
		mustWin(t, by(0, withStale(n), withPref(101)), by(0))
	}
	// If all are, they are held against each other.
	mustBest(t, us, some, 0, by(3, withStale(2)))
	mustWin(t, by(0, withStale(2), withPref(101)), by(1, withStale(2)))
	// One that is not, but not usable, is none.
	mustWin(t, by(0, withStale(2)), by(1, withPath(seq(us))))
	// Whether the community says so does not count.
	tells := by(1)
	tells.Attrs.Comms = []uint32{api.LLGRStale}
	mustWin(t, tells, by(0))
}

func TestPref(t *testing.T) {
	rising := []int{0, 1, 99, 100, 101, 255, 256, math.MaxInt32, 1<<32 - 1, 1 << 32, 1<<32 + 100, far - 2, far - 1, far}
	for i, a := range rising {
		for _, b := range rising[:i] {
			mustWin(t, by(0, withPref(a)), by(1, withPref(b)))
		}
		mustTie(t, by(0, withPref(a)), by(0, withPref(a)))
	}
	for _, none := range []int{-1, -2, -99, -100, -101, -far, -far + 1, -1<<32 + 200} {
		mustTie(t, by(0, withPref(none)), by(0, withPref(100)))
		mustTie(t, by(0, withPref(none)), by(0, withPref(-1)))
		mustWin(t, by(0, withPref(none)), by(1, withPref(99)))
		mustWin(t, by(0, withPref(101)), by(1, withPref(none)))
	}
}

func TestLength(t *testing.T) {
	both := []api.Segment{{AS: []int{7, 9}}, {Set: true, AS: []int{10, 11, 12}}}
	rising := [][]api.Segment{nil, set(7, 8, 9, 10, 11), seq(7, 9), both, seq(7, 9, 9, 9), seq(make([]int, 300)...)}
	for i, a := range rising {
		for _, b := range rising[:i] {
			mustWin(t, by(0, withPath(b), withOrigin(2)), by(1, withPath(a)))
		}
	}
	for _, same := range [][]api.Segment{nil, {}, {{}}, {{}, {}, {}}} {
		mustTie(t, by(0, withPath(same)), by(0, withPath(nil)))
	}
	mustTie(t, by(0, withPath(set(7))), by(0, withPath(set(7, 8, 9))))
	mustTie(t, by(0, withPath(set())), by(0, withPath(seq(7))))
}

func TestOrigin(t *testing.T) {
	rising := []int{-far, -far + 1, -far + 2, -1 << 32, -256, -2, -1, 0, 1, 2, 3, 255, 256, 1 << 32, 1<<32 + 1, far - 1, far}
	for i, a := range rising {
		for _, b := range rising[:i] {
			mustWin(t, by(0, withOrigin(b), withMed(9)), by(1, withOrigin(a)))
		}
		mustTie(t, by(0, withOrigin(a)), by(0, withOrigin(a)))
	}
}

func TestMed(t *testing.T) {
	rising := []int{0, 1, 2, 100, 256, math.MaxInt32, 1<<32 - 1, 1 << 32, 1<<32 + 1, far - 2, far - 1, far}
	for i, a := range rising {
		for _, b := range rising[:i] {
			mustWin(t, by(0, withMed(b)), by(1, withMed(a)))
			mustWin(t, by(4, withMed(b)), by(1, withMed(a)))
			// Of another neighbour it does not count.
			mustWin(t, by(1, withMed(a)), by(0, withMed(b), withPath(seq(6, 8))))
			mustWin(t, by(1, withMed(b)), by(0, withMed(a), withPath(seq(6, 8))))
		}
	}
	for _, none := range []int{-1, -2, -100, -far, -1<<32 + 5} {
		mustTie(t, by(0, withMed(none)), by(0, withMed(0)))
		mustTie(t, by(0, withMed(none)), by(0, withMed(-1)))
		mustWin(t, by(0, withMed(none)), by(1, withMed(1)))
	}
}

// The Med counts by the first number alone, and only where both have one.
func TestMedOfWhom(t *testing.T) {
	mustWin(t, by(0, withMed(1), withPath(seq(7, 9))), by(1, withMed(2), withPath(seq(7, 8))))
	mustWin(t, by(0, withMed(1), withPath(seq(0, 9))), by(1, withMed(2), withPath(seq(0, 8))))
	mustWin(t, by(0, withMed(1), withPath(seq(1<<32+7))), by(1, withMed(2), withPath(seq(1<<32+7))))
	mustWin(t, by(1, withMed(2), withPath(seq(1<<32+7))), by(0, withMed(1), withPath(seq(7))))
	mustWin(t, by(1, withMed(2), withPath(seq(far+1))), by(0, withMed(1), withPath(seq(far))))
	mustWin(t, by(1, withMed(2), withPath(seq(8, 7))), by(0, withMed(1), withPath(seq(7, 8))))
	// Of a path without a first number there is none to hold it against, nor one of the number 0.
	for _, p := range [][]api.Segment{set(7), set(0), {{Set: true, AS: []int{7}}, {}}, {{}, {Set: true, AS: []int{7}}}, {{}, {AS: []int{7}}}} {
		mustWin(t, by(1, withMed(2), withPath(p)), by(0, withMed(1), withPath(p)))
		for _, q := range [][]api.Segment{seq(7), seq(0), set(9)} {
			mustWin(t, by(1, withMed(2), withPath(p)), by(0, withMed(1), withPath(q)))
			mustWin(t, by(1, withMed(2), withPath(q)), by(0, withMed(1), withPath(p)))
		}
	}
	mustWin(t, by(1, withMed(2), withPath(nil)), by(0, withMed(1), withPath(nil)))
}

// A Med takes away only those of its neighbour, whatever the order; one that is gone ahead takes none away.
func TestMedOfMany(t *testing.T) {
	seven, six := withPath(seq(7, 8)), withPath(seq(6, 8))
	// By ID peer 3 is ahead of 2, 1 and 0: but its Med is above that of 0.
	list := []api.Route{by(3, seven, withMed(5)), by(2, six, withMed(9)), by(0, seven, withMed(4))}
	for range 3 {
		list = append(list[1:], list[0])
		n, ok := Best(us, some, list)
		if !ok || list[n].Peer != 2 {
			t.Errorf("%d, %v of %+v", n, ok, list)
		}
	}
	for _, gone := range []func(r *api.Route){withPath(seq(7, us)), withPath(seq(7, 8, 9)), withStale(2), withPref(99), withOrigin(1)} {
		mustWin(t, by(1, withMed(9)), by(0, withMed(1), gone))
		mustBest(t, us, some, 1, by(0, withMed(1), gone), by(1, withMed(9)), by(0, withMed(9)))
	}
	// The static one was taken ahead, and its Med is nothing to others.
	mustWin(t, by(-1, withMed(9)), by(0, withMed(1)))
	// Of the same least Med all stay.
	mustBest(t, us, some, 2, by(0, withMed(3)), by(3, withMed(4)), by(2, withMed(3)), by(1, withMed(3)))
}

func TestOutside(t *testing.T) {
	mustWin(t, by(0), by(4))
	mustWin(t, by(0), by(5))
	// If all are of ours, they are held against each other.
	mustWin(t, by(5), by(4))
	mustBest(t, us, some, 0, by(4))
	// It hangs on who asks.
	mustBest(t, 2, some, 1, by(0), by(4))
	mustBest(t, 2, some, 1, by(0), by(1))
	mustBest(t, -1, some, 1, by(0), by(5), by(3))
	mustBest(t, 1<<32+us, some, 1, by(0), by(5), by(3))
	// Of a peer that nobody tells of the AS is 0.
	mustWin(t, by(77), by(5))
	mustBest(t, 0, some, 1, by(77), by(0))
	mustBest(t, 0, nil, 1, by(77), by(66))
}

func TestID(t *testing.T) {
	rising := []uint32{0, 1, 2, 255, 256, 1<<24 - 1, 1 << 24, 1<<24 + 1, math.MaxInt32, math.MaxInt32 + 1, math.MaxUint32 - 1, math.MaxUint32}
	for i, a := range rising {
		for _, b := range rising[:i] {
			infos := []Info{{Peer: 1, AS: 2, ID: a}, {Peer: 2, AS: 3, ID: b}}
			mustBest(t, us, infos, 1, by(1), by(2))
			mustBest(t, us, infos, 0, by(2), by(1))
		}
	}
	// Of a peer that nobody tells of the ID is 0.
	infos := []Info{{Peer: 1, AS: 2, ID: 1}, {Peer: 2, AS: 2}}
	mustBest(t, us, infos, 1, by(1), by(9))
	mustBest(t, us, infos, 1, by(9), by(2))
	mustBest(t, us, nil, 2, by(9), by(8), by(7), by(10))
}

func TestFirstOfInfosCounts(t *testing.T) {
	infos := []Info{{Peer: 1, AS: 2, ID: 5}, {Peer: 2, AS: 2, ID: 6}, {Peer: 2, AS: 2, ID: 1}, {Peer: 1, AS: us, ID: 9}}
	mustBest(t, us, infos, 1, by(2), by(1))
	mustBest(t, us, infos[1:], 0, by(2), by(1))
	mustBest(t, us, infos[2:], 0, by(2), by(1))
	slices.Reverse(infos)
	mustBest(t, us, infos, 1, by(1), by(2))
	// Numbers are told from others by all their bits.
	mustBest(t, us, []Info{{Peer: 1<<32 + 2, AS: 2, ID: 0}, {Peer: 2, AS: 2, ID: 8}, {Peer: 3, AS: 2, ID: 7}}, 1, by(2), by(3))
}

func TestPeerNumbers(t *testing.T) {
	rising := []int{0, 1, 2, 7, 255, 256, 999, math.MaxInt32, 1 << 32, 1<<32 + 1, far - 2, far - 1, far}
	for i, a := range rising {
		for _, b := range rising[:i] {
			mustBest(t, us, nil, 1, by(a), by(b))
			mustBest(t, us, nil, 0, by(b), by(a))
		}
	}
}

// All else of a route does not count.
func TestWhatDoesNotCount(t *testing.T) {
	other := by(1)
	other.Prefix = api.Prefix{Addr: 0x0b000000, Len: 33}
	other.Attrs.Next = 0
	other.Attrs.Comms = []uint32{api.NoLLGR, 5}
	other.Attrs.Raws = []api.Raw{{Flags: 0xe0, Type: 20, Data: []byte("abc")}}
	mustTie(t, by(1), other)
}

// model tells the chapter's sentence a second time: of whole numbers, each route held against each that is left.
type model struct {
	as    int
	infos []Info
}

func (m model) peer(r api.Route) (as int, id uint32) {
	for _, x := range m.infos {
		if x.Peer == r.Peer {
			return x.AS, x.ID
		}
	}
	return 0, 0
}

func (m model) usable(r api.Route) bool {
	for _, s := range r.Attrs.Path {
		if slices.Contains(s.AS, m.as) {
			return false
		}
	}
	return true
}

func told(n, none int) int {
	if n < 0 {
		return none
	}
	return n
}

func longOf(p []api.Segment) int {
	n := 0
	for _, s := range p {
		if s.Set {
			n++
		} else {
			n += len(s.AS)
		}
	}
	return n
}

func firstOf(r api.Route) string {
	p := r.Attrs.Path
	if len(p) == 0 || p[0].Set || len(p[0].AS) == 0 {
		return ""
	}
	return fmt.Sprint(p[0].AS[0])
}

// beats answers for each question if a takes b away by it.
func (m model) beats() []func(a, b api.Route) bool {
	return []func(a, b api.Route) bool{
		func(a, b api.Route) bool { return a.Peer < 0 && b.Peer >= 0 },
		func(a, b api.Route) bool { return a.Stale != 2 && b.Stale == 2 },
		func(a, b api.Route) bool { return told(a.Attrs.Pref, 100) > told(b.Attrs.Pref, 100) },
		func(a, b api.Route) bool { return longOf(a.Attrs.Path) < longOf(b.Attrs.Path) },
		func(a, b api.Route) bool { return a.Attrs.Origin < b.Attrs.Origin },
		func(a, b api.Route) bool {
			return firstOf(a) != "" && firstOf(a) == firstOf(b) && told(a.Attrs.Med, 0) < told(b.Attrs.Med, 0)
		},
		func(a, b api.Route) bool {
			x, _ := m.peer(a)
			y, _ := m.peer(b)
			return x != m.as && y == m.as
		},
		func(a, b api.Route) bool {
			_, x := m.peer(a)
			_, y := m.peer(b)
			return x < y
		},
		func(a, b api.Route) bool { return a.Peer < b.Peer },
	}
}

// best answers the place, too, and which questions took some away.
func (m model) best(list []api.Route) (place int, ok bool, asked []int) {
	left := map[int]api.Route{}
	for i, r := range list {
		if m.usable(r) {
			left[i] = r
		}
	}
	for n, beats := range m.beats() {
		stay := map[int]api.Route{}
		for i, r := range left {
			gone := false
			for _, other := range left {
				gone = gone || beats(other, r)
			}
			if !gone {
				stay[i] = r
			}
		}
		if len(stay) < len(left) {
			asked = append(asked, n)
		}
		left = stay
	}
	for i := range list {
		if _, there := left[i]; there {
			return i, true, asked
		}
	}
	return 0, false, asked
}

// pick answers one of the numbers.
func pick(source *rand.Rand, list ...int) int {
	return list[source.Intn(len(list))]
}

// anyPath answers a path, most often a short one of few numbers.
func anyPath(source *rand.Rand) []api.Segment {
	if source.Intn(2) == 0 {
		return seq(pick(source, 5, 7))
	}
	var p []api.Segment
	for range pick(source, 0, 1, 1, 1, 1, 1, 1, 1, 2) {
		s := api.Segment{Set: source.Intn(5) == 0}
		for range pick(source, 0, 1, 1, 1, 1, 1, 2) {
			s.AS = append(s.AS, pick(source, 0, 2, 3, 3, 3, 3, 7, 7, 1<<32+7))
		}
		p = append(p, s)
	}
	if source.Intn(8) == 0 {
		p = append(p, api.Segment{AS: []int{us}})
	}
	return p
}

// anyRoute answers a route that differs little from others: many of its questions end in a tie.
func anyRoute(source *rand.Rand) api.Route {
	r := by(source.Intn(9))
	if source.Intn(40) == 0 {
		r.Peer = pick(source, -1, -2, -far, far, far-1, 1<<32+1)
	}
	r.Stale = pick(source, 0, 1, 2, 2)
	r.Attrs.Pref = pick(source, -1, -1, -7, 100, 100, 100, 100, 99)
	if source.Intn(12) == 0 {
		r.Attrs.Pref = pick(source, 101, 101, far-1, far, -far)
	}
	r.Attrs.Origin = pick(source, 0, 0, 0, 1, 2)
	if source.Intn(12) == 0 {
		r.Attrs.Origin = pick(source, -1, -far, -far+1, far)
	}
	r.Attrs.Med = pick(source, -1, -9, 0, 0, 1, 2, far, far-1, -far)
	r.Attrs.Path = anyPath(source)
	return r
}

func anyInfos(source *rand.Rand) []Info {
	var list []Info
	for range source.Intn(12) {
		peer := pick(source, -1, 0, 1, 2, 3, 4, 5, 6, 7, 8, 8, far)
		list = append(list, Info{Peer: peer, AS: pick(source, 0, us, us, 2, 3), ID: uint32(pick(source, 0, 5, 5, 6, math.MaxUint32))})
	}
	return list
}

func TestAllAsTheSentenceSays(t *testing.T) {
	source := rand.New(rand.NewSource(15))
	count := map[int]int{}
	none := 0
	for range 20000 {
		as, infos := pick(source, us, us, us, us, 0, 3, 7, -1), anyInfos(source)
		var list []api.Route
		for range source.Intn(14) {
			list = append(list, anyRoute(source))
		}
		want, ok, asked := model{as: as, infos: infos}.best(list)
		if got, there := Best(as, infos, list); got != want || there != ok {
			t.Fatalf("Best(%d, %+v, %+v): %d, %v; want %d, %v", as, infos, list, got, there, want, ok)
		}
		for _, n := range asked {
			count[n]++
		}
		if !ok {
			none++
		}
	}
	for n := range (model{}).beats() {
		if count[n] < 200 {
			t.Errorf("question %d took some away only %d times", n, count[n])
		}
	}
	if none < 200 {
		t.Errorf("none was usable only %d times", none)
	}
}

// Rule R1: beyond the chapter's numbers one is answered, and one that is usable.
func TestAnyNumbers(t *testing.T) {
	ends := []int{math.MinInt, math.MinInt + 1, -far - 1, -1, 0, 1, far + 1, math.MaxInt - 1, math.MaxInt}
	for _, a := range ends {
		for _, b := range ends {
			x, y := by(a, withPref(b), withMed(a), withOrigin(b), withStale(a)), by(b, withPref(a), withMed(b), withOrigin(a), withStale(b))
			list := []api.Route{by(a, withPath(seq(7, a))), x, y}
			n, ok := Best(a, []Info{{Peer: a, AS: b, ID: math.MaxUint32}, {Peer: b, AS: a}}, list)
			if !ok || n < 1 || n > 2 {
				t.Errorf("%d and %d: %d, %v", a, b, n, ok)
			}
		}
	}
}

// Rules R4 and R5: what is handed in stays as it is, spare room included, and the same is answered again.
func TestNothingIsChanged(t *testing.T) {
	source := rand.New(rand.NewSource(115))
	for range 200 {
		infos, list := anyInfos(source), []api.Route{}
		for range 12 {
			list = append(list, anyRoute(source))
		}
		infos = append(infos, Info{Peer: 3, AS: 2, ID: 1}, Info{Peer: 2, AS: us})
		before := fmt.Sprintf("%+v %+v", infos, list)
		n, ok := Best(us, infos[:len(infos)-2], list[:9])
		if again, too := Best(us, infos[:len(infos)-2], list[:9]); again != n || too != ok {
			t.Fatalf("%d, %v, then %d, %v", n, ok, again, too)
		}
		if after := fmt.Sprintf("%+v %+v", infos, list); after != before {
			t.Fatalf("%s\nbecame %s", before, after)
		}
	}
}

// Many routes are no more than a few: each question goes through them once or twice.
func TestMany(t *testing.T) {
	var list []api.Route
	for i := range 100000 {
		list = append(list, by(i%6, withMed(100000-i), withPath(seq(2+i%1000, 8))))
	}
	// Of each first number the last has the least Med; of these the least ID that is not ours is that of peer 3.
	want := slices.IndexFunc(list[99000:], func(r api.Route) bool { return r.Peer == 3 })
	mustBest(t, us, some, 99000+want, list...)
}
