package trie

import (
	"fmt"
	"math"
	"math/rand"
	"slices"
	"strings"
	"testing"

	"interregnum/api"
	"interregnum/prefix"
)

// someAddrs are addresses at the edges of bytes and bits.
var someAddrs = []uint32{0, 1, 0x7f, 0x80, 0xffff, 0x0a000000, 0x0a010203, 0x7fffffff, 0x80000000, 0x80000001, 0xaaaaaaaa, 0x55555555, 0xfffffffe, 0xffffffff}

// someValues are numbers that a prefix may have; 0 and -1 are no other than the rest.
var someValues = []int{0, 1, -1, 7, math.MinInt32, math.MaxInt32, math.MinInt, math.MaxInt}

// wrongPrefixes answers prefixes that are not right: by their length, which a byte, a mask or a shift would make a right one, or by bits behind it.
func wrongPrefixes() []api.Prefix {
	var list []api.Prefix
	for _, n := range []int{-1, -8, -32, 33, 34, 40, 64, 256, 264, 1 << 32, 1<<32 + 8, math.MinInt32, math.MaxInt32, math.MinInt, math.MaxInt} {
		for _, addr := range []uint32{0, 0x0a000000, 0xffffffff} {
			list = append(list, api.Prefix{Addr: addr, Len: n})
		}
	}
	for n := range 32 {
		list = append(list, api.Prefix{Addr: 1, Len: n}, api.Prefix{Addr: 0xffffffff, Len: n}, api.Prefix{Addr: 1 << (31 - n), Len: n})
	}
	return list
}

// bitsOf answers addr as a text of 32 digits 0 and 1.
func bitsOf(addr uint32) string {
	return fmt.Sprintf("%032b", addr)
}

// cut answers the prefix of the first n bits of addr.
func cut(addr uint32, n int) api.Prefix {
	var p api.Prefix
	p.Len = n
	for i, digit := range bitsOf(addr)[:n] {
		if digit == '1' {
			p.Addr |= 1 << (31 - i)
		}
	}
	return p
}

// model tells the chapter's sentences a second time, by a map and by texts of bits.
type model map[api.Prefix]int

func (m model) find(addr uint32) (api.Prefix, int, bool) {
	for n := 32; n >= 0; n-- {
		for p, v := range m {
			if p.Len == n && strings.HasPrefix(bitsOf(addr), bitsOf(p.Addr)[:n]) {
				return p, v, true
			}
		}
	}
	return api.Prefix{}, 0, false
}

func (m model) all() []api.Prefix {
	var list []api.Prefix
	for p := range m {
		list = append(list, p)
	}
	slices.SortFunc(list, prefix.Compare)
	return list
}

func mustSet(t *testing.T, x *Trie, p api.Prefix, v int) {
	t.Helper()
	if !x.Set(p, v) {
		t.Fatalf("Set(%+v, %d): false", p, v)
	}
}

func mustGet(t *testing.T, x *Trie, p api.Prefix, v int, ok bool) {
	t.Helper()
	if gotV, gotOK := x.Get(p); gotV != v || gotOK != ok {
		t.Fatalf("Get(%+v): %d, %v, want %d, %v", p, gotV, gotOK, v, ok)
	}
}

func mustDrop(t *testing.T, x *Trie, p api.Prefix, was bool) {
	t.Helper()
	if x.Drop(p) != was {
		t.Fatalf("Drop(%+v): %v", p, !was)
	}
}

func mustFind(t *testing.T, x *Trie, addr uint32, p api.Prefix, v int, ok bool) {
	t.Helper()
	if gotP, gotV, gotOK := x.Find(addr); gotP != p || gotV != v || gotOK != ok {
		t.Fatalf("Find(%08x): %+v, %d, %v, want %+v, %d, %v", addr, gotP, gotV, gotOK, p, v, ok)
	}
}

func mustHave(t *testing.T, x *Trie, want ...api.Prefix) {
	t.Helper()
	if got := x.All(); !slices.Equal(got, want) {
		t.Fatalf("All: %+v, want %+v", got, want)
	}
}

// mustBe asks x all that m answers.
func mustBe(t *testing.T, x *Trie, m model, addrs ...uint32) {
	t.Helper()
	mustHave(t, x, m.all()...)
	for p, v := range m {
		mustGet(t, x, p, v, true)
	}
	for _, addr := range addrs {
		p, v, ok := m.find(addr)
		mustFind(t, x, addr, p, v, ok)
	}
}

// places answers how many places there are below x.
func places(x *place) int {
	n := 0
	for _, next := range x.below {
		if next != nil {
			n += 1 + places(next)
		}
	}
	return n
}

func TestTheChaptersExample(t *testing.T) {
	ten, one := api.Prefix{Addr: 0x0a000000, Len: 8}, api.Prefix{Addr: 0x0a010000, Len: 16}
	for _, order := range [][]api.Prefix{{ten, one}, {one, ten}} {
		x := New()
		for _, p := range order {
			mustSet(t, x, p, p.Len)
		}
		mustFind(t, x, 0x0a010203, one, 16, true)
		mustFind(t, x, 0x0a010000, one, 16, true)
		mustFind(t, x, 0x0a01ffff, one, 16, true)
		mustFind(t, x, 0x0a00ffff, ten, 8, true)
		mustFind(t, x, 0x0a020000, ten, 8, true)
		mustFind(t, x, 0x0a000000, ten, 8, true)
		mustFind(t, x, 0x0affffff, ten, 8, true)
		mustFind(t, x, 0x09ffffff, api.Prefix{}, 0, false)
		mustFind(t, x, 0x0b000000, api.Prefix{}, 0, false)
		mustHave(t, x, ten, one)
	}
}

func TestNewHasNothing(t *testing.T) {
	for _, x := range []*Trie{New(), {}} {
		mustHave(t, x)
		for _, addr := range someAddrs {
			mustFind(t, x, addr, api.Prefix{}, 0, false)
			for n := range 33 {
				mustGet(t, x, cut(addr, n), 0, false)
				mustDrop(t, x, cut(addr, n), false)
			}
		}
		mustSet(t, x, api.Prefix{}, 5)
		mustFind(t, x, 9, api.Prefix{}, 5, true)
	}
}

func TestNil(t *testing.T) {
	var x *Trie
	for _, addr := range someAddrs {
		for n := range 33 {
			p := cut(addr, n)
			if x.Set(p, 1) {
				t.Errorf("Set(%+v): true", p)
			}
			mustGet(t, x, p, 0, false)
			mustDrop(t, x, p, false)
		}
		mustFind(t, x, addr, api.Prefix{}, 0, false)
	}
	for _, p := range wrongPrefixes() {
		if x.Set(p, 1) {
			t.Errorf("Set(%+v): true", p)
		}
		mustGet(t, x, p, 0, false)
		mustDrop(t, x, p, false)
	}
	mustHave(t, x)
}

func TestWrongPrefixes(t *testing.T) {
	full := New()
	m := model{}
	for _, addr := range []uint32{0, 0x0a000000, 0xffffffff} {
		for n := range 33 {
			m[cut(addr, n)] = n + 1
			mustSet(t, full, cut(addr, n), n+1)
		}
	}
	empty := New()
	for _, p := range wrongPrefixes() {
		for _, x := range []*Trie{full, empty} {
			if x.Set(p, 99) {
				t.Errorf("Set(%+v): true", p)
			}
			mustGet(t, x, p, 0, false)
			mustDrop(t, x, p, false)
		}
	}
	mustBe(t, full, m, someAddrs...)
	mustBe(t, empty, model{}, someAddrs...)
	if n := places(&empty.root); n != 0 {
		t.Errorf("%d places of refused prefixes", n)
	}
}

func TestEachLengthOfEachAddress(t *testing.T) {
	for _, addr := range someAddrs {
		for n := range 33 {
			x, p := New(), cut(addr, n)
			mustSet(t, x, p, 3)
			mustBe(t, x, model{p: 3}, someAddrs...)
			for other := range 33 {
				if other != n {
					mustGet(t, x, cut(addr, other), 0, false)
					mustDrop(t, x, cut(addr, other), false)
				}
			}
			mustFind(t, x, addr, p, 3, true)
			if n > 0 {
				mustFind(t, x, addr^1<<(32-n), api.Prefix{}, 0, false)
			}
			if n < 32 {
				mustFind(t, x, addr^1<<(31-n), p, 3, true)
			}
			mustDrop(t, x, p, true)
			mustBe(t, x, model{}, someAddrs...)
		}
	}
}

func TestTheLongestOfAllLengths(t *testing.T) {
	for _, addr := range someAddrs {
		up, down := New(), New()
		for n := range 33 {
			mustSet(t, up, cut(addr, n), 100+n)
			mustFind(t, up, addr, cut(addr, n), 100+n, true)
			mustSet(t, down, cut(addr, 32-n), 132-n)
			mustFind(t, down, addr, cut(addr, 32), 132, true)
		}
		for n := range 32 {
			// The bit behind the first n is another: none of those that are longer covers it.
			mustFind(t, up, addr^1<<(31-n), cut(addr, n), 100+n, true)
		}
		for n := range 32 {
			mustDrop(t, down, cut(addr, n), true)
			mustFind(t, down, addr, cut(addr, 32), 132, true)
			mustDrop(t, up, cut(addr, 32-n), true)
			mustFind(t, up, addr, cut(addr, 31-n), 131-n, true)
		}
		mustHave(t, down, cut(addr, 32))
		mustHave(t, up, api.Prefix{})
	}
}

func TestValues(t *testing.T) {
	for _, p := range []api.Prefix{{}, {Len: 32}, {Addr: 0x0a000000, Len: 8}, {Addr: 0xffffffff, Len: 32}} {
		x := New()
		for _, v := range append(someValues, someValues...) {
			mustSet(t, x, p, v)
			mustGet(t, x, p, v, true)
			mustFind(t, x, p.Addr, p, v, true)
			mustHave(t, x, p)
		}
		mustDrop(t, x, p, true)
		mustDrop(t, x, p, false)
		mustGet(t, x, p, 0, false)
		mustFind(t, x, p.Addr, api.Prefix{}, 0, false)
		mustSet(t, x, p, 0)
		mustGet(t, x, p, 0, true)
	}
}

// One that has 0 hides one that has more, and is no less there.
func TestZeroIsAValue(t *testing.T) {
	x := New()
	mustSet(t, x, api.Prefix{}, 7)
	mustSet(t, x, api.Prefix{Addr: 0x80000000, Len: 1}, 0)
	mustFind(t, x, 0x80000000, api.Prefix{Addr: 0x80000000, Len: 1}, 0, true)
	mustFind(t, x, 0x7fffffff, api.Prefix{}, 7, true)
	mustDrop(t, x, api.Prefix{Addr: 0x80000000, Len: 1}, true)
	mustFind(t, x, 0x80000000, api.Prefix{}, 7, true)
}

// Those that only lie on the way to another are not there; one that goes leaves those below it and those above it.
func TestPlacesOnTheWay(t *testing.T) {
	x := New()
	short, middle, long := api.Prefix{Addr: 0x0a000000, Len: 8}, api.Prefix{Addr: 0x0a000000, Len: 16}, api.Prefix{Addr: 0x0a000000, Len: 24}
	mustSet(t, x, long, 3)
	mustGet(t, x, middle, 0, false)
	mustDrop(t, x, middle, false)
	mustFind(t, x, 0x0a000100, api.Prefix{}, 0, false)
	mustFind(t, x, 0x0a0000ff, long, 3, true)
	mustSet(t, x, short, 1)
	mustSet(t, x, middle, 2)
	mustDrop(t, x, middle, true)
	mustDrop(t, x, middle, false)
	mustHave(t, x, short, long)
	mustGet(t, x, short, 1, true)
	mustGet(t, x, long, 3, true)
	mustFind(t, x, 0x0a000100, short, 1, true)
}

func TestAllIsInOrder(t *testing.T) {
	rising := []api.Prefix{
		{}, {Len: 1}, {Len: 31}, {Len: 32}, {Addr: 1, Len: 32}, {Addr: 2, Len: 31},
		{Addr: 0x0a000000, Len: 8}, {Addr: 0x0a000000, Len: 16}, {Addr: 0x0a000000, Len: 32}, {Addr: 0x0a010000, Len: 16}, {Addr: 0x0a020000, Len: 15},
		{Addr: 0x7fffffff, Len: 32}, {Addr: 0x80000000, Len: 1}, {Addr: 0x80000000, Len: 32}, {Addr: 0xc0000000, Len: 2}, {Addr: 0xffffffff, Len: 32},
	}
	source := rand.New(rand.NewSource(11))
	for range 100 {
		x := New()
		for _, i := range source.Perm(len(rising)) {
			mustSet(t, x, rising[i], i)
		}
		mustHave(t, x, rising...)
	}
}

// Every choice of the prefixes of up to two bits, made, asked, and taken away one by one, asked again behind each.
func TestEveryChoiceOfShortOnes(t *testing.T) {
	list := []api.Prefix{{}, {Len: 1}, {Len: 2}, {Addr: 1 << 30, Len: 2}, {Addr: 2 << 30, Len: 1}, {Addr: 2 << 30, Len: 2}, {Addr: 3 << 30, Len: 2}}
	addrs := []uint32{0, 1<<30 - 1, 1 << 30, 2<<30 - 1, 2 << 30, 3<<30 - 1, 3 << 30, 0xffffffff}
	for choice := range 1 << len(list) {
		x, m := New(), model{}
		for i, p := range list {
			if choice>>i&1 == 1 {
				mustSet(t, x, p, i)
				m[p] = i
			}
		}
		mustBe(t, x, m, addrs...)
		for i := range list {
			// Three and seven have no divisor in common: each goes once, in an order of neither rising nor falling length.
			p := list[i*3%len(list)]
			_, there := m[p]
			mustDrop(t, x, p, there)
			delete(m, p)
			mustBe(t, x, m, addrs...)
		}
	}
}

// pick answers a prefix, most often one that was picked ahead or lies close to it.
func pick(source *rand.Rand) api.Prefix {
	addr := someAddrs[source.Intn(len(someAddrs))]
	if source.Intn(4) == 0 {
		addr ^= 1 << source.Intn(32)
	}
	return cut(addr, source.Intn(33))
}

func TestAllAsTheSentencesSay(t *testing.T) {
	source := rand.New(rand.NewSource(111))
	dropped, found, missed := 0, 0, 0
	for round := range 60 {
		x, m := New(), model{}
		for range 300 {
			p, v := pick(source), source.Intn(9)-4
			switch source.Intn(4 + round%3) {
			case 0:
				mustSet(t, x, p, v)
				m[p] = v
			case 1:
				want, there := m[p]
				mustGet(t, x, p, want, there)
			case 2:
				addr := p.Addr | uint32(source.Intn(4))
				wantP, wantV, ok := m.find(addr)
				mustFind(t, x, addr, wantP, wantV, ok)
				if ok {
					found++
				} else {
					missed++
				}
			default:
				if list := m.all(); len(list) > 0 && source.Intn(2) == 0 {
					p = list[source.Intn(len(list))]
				}
				_, there := m[p]
				mustDrop(t, x, p, there)
				delete(m, p)
				if there {
					dropped++
				}
			}
		}
		mustBe(t, x, m, someAddrs...)
	}
	if dropped < 1000 || found < 500 || missed < 500 {
		t.Errorf("%d dropped, %d found, %d missed", dropped, found, missed)
	}
}

// No more is kept than is there: what comes and goes leaves as many places as there were ahead of it.
func TestDropGivesRoomBack(t *testing.T) {
	source := rand.New(rand.NewSource(1111))
	x, m := New(), model{}
	for range 200 {
		p := pick(source)
		mustSet(t, x, p, 1)
		m[p] = 1
	}
	for _, p := range m.all() {
		if source.Intn(8) > 0 {
			mustDrop(t, x, p, true)
			delete(m, p)
		}
	}
	way := map[api.Prefix]int{}
	for p := range m {
		for n := 1; n <= p.Len; n++ {
			way[cut(p.Addr, n)]++
		}
	}
	if got := places(&x.root); len(m) < 5 || got != len(way) {
		t.Errorf("%d places of %d prefixes, want %d", got, len(m), len(way))
	}
	for p := range m {
		mustDrop(t, x, p, true)
	}
	if got := places(&x.root); got != 0 {
		t.Errorf("%d places of none", got)
	}
}

// Rule R4: what All answers is the caller's own, spare room included.
func TestMemory(t *testing.T) {
	x, m := New(), model{}
	for i, addr := range someAddrs {
		mustSet(t, x, cut(addr, 20+i%13), i)
		m[cut(addr, 20+i%13)] = i
	}
	first, second := x.All(), x.All()
	clear(first[:cap(first)])
	if !slices.Equal(second, m.all()) {
		t.Errorf("another answer: %+v", second)
	}
	mustBe(t, x, m, someAddrs...)
	mustSet(t, x, api.Prefix{}, 1)
	mustDrop(t, x, m.all()[0], true)
	if !slices.Equal(second, m.all()) {
		t.Errorf("an answer of ahead: %+v", second)
	}
}

// Rule R5: what one Trie has is no other's.
func TestEachHasItsOwn(t *testing.T) {
	x, y, p := New(), New(), api.Prefix{Addr: 0x0a000000, Len: 8}
	mustSet(t, x, p, 1)
	mustGet(t, y, p, 0, false)
	mustSet(t, y, p, 2)
	mustGet(t, x, p, 1, true)
	mustDrop(t, y, p, true)
	mustFind(t, x, 0x0a000001, p, 1, true)
	mustHave(t, New())
}

// Many stand beside each other, and each is found.
func TestMany(t *testing.T) {
	x := New()
	const count = 1 << 16
	for i := range count {
		mustSet(t, x, api.Prefix{Addr: uint32(i) << 16, Len: 16 + i%17}, i)
	}
	for i := range count {
		mustFind(t, x, uint32(i)<<16, api.Prefix{Addr: uint32(i) << 16, Len: 16 + i%17}, i, true)
	}
	if list := x.All(); len(list) != count || !slices.IsSortedFunc(list, prefix.Compare) {
		t.Errorf("%d of them", len(list))
	}
}
