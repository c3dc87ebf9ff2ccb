package nego

import (
	"encoding/binary"
	"math"
	"math/rand"
	"reflect"
	"slices"
	"testing"

	"interregnum/api"
	"interregnum/caps"
	"interregnum/msg"
)

// someNumbers are numbers that an AS, a Hold or a time may be called with: at the edges that the chapter names, at those of one, two, three and four bytes, at the ends of int, and those that fewer bits would make others of them.
var someNumbers = []int{
	math.MinInt, math.MinInt + 1, -1<<32 + 2, math.MinInt32, -65535, -2, -1, 0, 1, 2, 3, 4, 29, 30, 90,
	127, 128, 255, 256, 257, 258, 4094, 4095, 4096, 5000, 8191, 23456, 65535, 65536, 65537, 65538, 70000,
	1<<20 - 1, api.MaxTime, 1<<24 - 1, 1 << 24, math.MaxInt32, 1 << 31, 1<<32 - 1, 1 << 32, 1<<32 + 1, 1<<32 + 2, 1 << 40, math.MaxInt - 1, math.MaxInt,
}

// someIDs are IDs at the edges of bytes and bits.
var someIDs = []uint32{0, 1, 2, 7, 8, 255, 256, 0x0a000001, 0x7fffffff, 0x80000000, 0xfffffffe, 0xffffffff}

// us and them are a good Config and a peer's, whose OPEN is right.
func us() api.Config {
	return api.Config{AS: 65001, ID: 7, Next: 0x0a000009, Hold: 90, GRTime: 120, LLTime: 3600, StaleTime: 360, Defer: 60}
}

func them() api.PeerConf { return api.PeerConf{Num: 3, AS: 65002} }

// right answers the OPEN of them that nothing is wrong with.
func right() api.Open {
	return api.Open{AS: 65002, Hold: 30, ID: 8, Caps: api.Caps{Four: true, AS4: 65002}}
}

func mustOurs(t *testing.T, c api.Config, restarting, forward bool, want api.Open) {
	t.Helper()
	if o := Ours(c, restarting, forward); o != want {
		t.Fatalf("Ours(%+v, %v, %v): %+v, want %+v", c, restarting, forward, o, want)
	}
}

func mustCheck(t *testing.T, c api.Config, p api.PeerConf, o api.Open, code, sub int, data string) {
	t.Helper()
	if n := Check(c, p, o); n.Code != code || n.Sub != sub || string(n.Data) != data {
		t.Fatalf("Check(%+v, %+v, %+v): %+v, want (%d, %d), %x", c, p, o, n, code, sub, data)
	}
}

func mustHold(t *testing.T, c api.Config, o api.Open, want int) {
	t.Helper()
	if hold := Hold(c, o); hold != want {
		t.Fatalf("Hold(%+v, %+v): %d, want %d", c, o, hold, want)
	}
}

// lacked tells the Data that stands beside (2, 7), not by the package's own means.
func lacked(as int) string {
	return "\x41\x04" + string(binary.BigEndian.AppendUint32(nil, uint32(as)))
}

func TestTheChaptersExample(t *testing.T) {
	mustHold(t, api.Config{Hold: 90}, api.Open{Hold: 30}, 30)
	mustHold(t, api.Config{Hold: 30}, api.Open{Hold: 90}, 30)
}

func TestOursOfAGoodConfig(t *testing.T) {
	for _, restarting := range []bool{false, true} {
		for _, forward := range []bool{false, true} {
			mustOurs(t, us(), restarting, forward, api.Open{AS: 65001, Hold: 90, ID: 7, Caps: api.Caps{
				Four: true, AS4: 65001,
				GR: true, Restarting: restarting, Time: 120, Family: true, Forward: forward,
				LL: true, LLTime: 3600,
			}})
		}
	}
}

// Of nothing, too, all three capabilities are told: without a time as with one.
func TestOursOfNothing(t *testing.T) {
	mustOurs(t, api.Config{}, false, false, api.Open{Caps: api.Caps{Four: true, GR: true, Family: true, LL: true}})
	mustOurs(t, api.Config{}, true, true, api.Open{Caps: api.Caps{Four: true, GR: true, Restarting: true, Family: true, Forward: true, LL: true}})
}

// Time is at most 4095, and nothing else is cut.
func TestOursTime(t *testing.T) {
	for given, want := range map[int]int{
		0: 0, 1: 1, 120: 120, 255: 255, 256: 256, 4094: 4094, 4095: 4095,
		4096: 4095, 4097: 4095, 5000: 4095, 8191: 4095, 1 << 16: 4095, api.MaxTime: 4095, 1 << 32: 4095, 1<<32 + 1: 4095, math.MaxInt: 4095,
		-1: -1, -4096: -4096, math.MinInt: math.MinInt,
	} {
		c := us()
		c.GRTime = given
		if got := Ours(c, false, true).Caps.Time; got != want {
			t.Errorf("GRTime %d: %d, want %d", given, got, want)
		}
	}
}

// Each field comes from its own, as it is.
func TestOursFieldByField(t *testing.T) {
	base := Ours(us(), true, false)
	for _, n := range someNumbers {
		c, want := us(), base
		c.AS, want.AS, want.Caps.AS4 = n, n, n
		mustOurs(t, c, true, false, want)
		c, want = us(), base
		c.Hold, want.Hold = n, n
		mustOurs(t, c, true, false, want)
		c, want = us(), base
		c.LLTime, want.Caps.LLTime = n, n
		mustOurs(t, c, true, false, want)
		// These are not the peer's to know.
		c = us()
		c.StaleTime, c.Defer = n, n
		mustOurs(t, c, true, false, base)
	}
	for _, id := range someIDs {
		c, want := us(), base
		c.ID, want.ID = id, id
		mustOurs(t, c, true, false, want)
		c = us()
		c.Next = id
		mustOurs(t, c, true, false, base)
	}
}

// What we tell can be told, and is read as we mean it, whatever good Config there is.
func TestOursCanBeTold(t *testing.T) {
	for _, as := range []int{1, 255, 256, 23456, 65535, 65536, 70000, 1<<32 - 1} {
		for _, hold := range []int{0, 3, 90, 65535} {
			for _, time := range []int{0, 1, 4095, 4096, api.MaxTime} {
				for way := range 4 {
					c := api.Config{AS: as, ID: 1, Hold: hold, GRTime: time, LLTime: time}
					o := Ours(c, way&1 != 0, way&2 != 0)
					b := msg.Encode(api.Msg{Kind: api.KindOpen, Open: o})
					m, n := msg.Decode(b)
					if !caps.Good(o.Caps) || len(b) == 0 || n.Code != 0 || m.Open != o {
						t.Fatalf("%+v: %x, %+v, %+v", o, b, m.Open, n)
					}
				}
			}
		}
	}
}

func TestCheckOfARightOpen(t *testing.T) {
	mustCheck(t, us(), them(), right(), 0, 0, "")
	o := right()
	o.Caps = api.Caps{Four: true, AS4: 65002, GR: true, Restarting: true, Time: 4095, Family: true, Forward: true, LL: true, LLTime: 1<<24 - 1}
	mustCheck(t, us(), them(), o, 0, 0, "")
	// A peer of our own AS is one.
	p := them()
	p.AS, o.AS, o.Caps.AS4 = 65001, 65001, 65001
	mustCheck(t, us(), p, o, 0, 0, "")
	// What we tell, another speaker takes.
	c := us()
	c.AS, c.ID = 65002, 8
	mustCheck(t, us(), them(), Ours(c, true, true), 0, 0, "")
}

// Without Four the Data tells our number, not the peer's, whatever else the OPEN has.
func TestCheckWithoutFour(t *testing.T) {
	for _, as := range someNumbers {
		c, o := us(), right()
		c.AS = as
		o.Caps = api.Caps{}
		mustCheck(t, c, them(), o, 2, 7, lacked(as))
		o.Caps = api.Caps{GR: true, Time: 120, Family: true, LL: true, LLTime: 9}
		mustCheck(t, c, them(), o, 2, 7, lacked(as))
	}
	c, o := us(), right()
	o.Caps.Four = false
	mustCheck(t, c, them(), o, 2, 7, "\x41\x04\x00\x00\xfd\xe9")
	c.AS = 0x01020304
	mustCheck(t, c, them(), o, 2, 7, "\x41\x04\x01\x02\x03\x04")
	c.AS = 1<<32 - 1
	mustCheck(t, c, them(), o, 2, 7, "\x41\x04\xff\xff\xff\xff")
}

// The Data is the capability that we tell ourselves.
func TestCheckTellsOurCapability(t *testing.T) {
	for _, as := range []int{1, 255, 256, 65535, 65536, 70000, 1<<32 - 1} {
		c := us()
		c.AS = as
		n := Check(c, them(), api.Open{})
		got, ok := caps.Decode(append([]byte{2, byte(len(n.Data))}, n.Data...))
		if !ok || got != (api.Caps{Four: true, AS4: as}) {
			t.Errorf("%d: %+v, %v", as, got, ok)
		}
	}
}

func TestCheckAS(t *testing.T) {
	for _, ours := range someNumbers {
		for _, theirs := range someNumbers {
			p, o := them(), right()
			p.AS, o.AS, o.Caps.AS4 = ours, theirs, theirs
			if ours == theirs {
				mustCheck(t, us(), p, o, 0, 0, "")
			} else {
				mustCheck(t, us(), p, o, 2, 2, "")
			}
		}
	}
}

// Its AS is the OPEN's: chapter 9 has put AS4 there.
func TestCheckDoesNotAskAS4(t *testing.T) {
	for _, as := range someNumbers {
		o := right()
		o.Caps.AS4 = as
		mustCheck(t, us(), them(), o, 0, 0, "")
		o.AS = 65003
		mustCheck(t, us(), them(), o, 2, 2, "")
	}
	o := right()
	o.AS = 23456
	mustCheck(t, us(), them(), o, 2, 2, "")
}

func TestCheckID(t *testing.T) {
	for _, ours := range someIDs {
		for _, theirs := range someIDs {
			c, o := us(), right()
			c.ID, o.ID = ours, theirs
			if theirs == 0 || theirs == ours {
				mustCheck(t, c, them(), o, 2, 3, "")
			} else {
				mustCheck(t, c, them(), o, 0, 0, "")
			}
		}
	}
}

// Only 1 and 2 are too short, of the peer's Hold alone.
func TestCheckHold(t *testing.T) {
	for _, hold := range someNumbers {
		c, o := us(), right()
		o.Hold = hold
		if hold == 1 || hold == 2 {
			mustCheck(t, c, them(), o, 2, 6, "")
		} else {
			mustCheck(t, c, them(), o, 0, 0, "")
		}
		c.Hold = hold
		mustCheck(t, c, them(), right(), 0, 0, "")
	}
}

// Of each choice of what is wrong, the first is told, in the chapter's order.
func TestCheckTellsTheFirst(t *testing.T) {
	wrongs := []struct {
		sub  int
		data string
		turn func(o *api.Open)
	}{
		{7, lacked(65001), func(o *api.Open) { o.Caps.Four = false }},
		{2, "", func(o *api.Open) { o.AS = 65003 }},
		{3, "", func(o *api.Open) { o.ID = 7 }},
		{6, "", func(o *api.Open) { o.Hold = 1 }},
	}
	for choice := 1; choice < 1<<len(wrongs); choice++ {
		o, first := right(), -1
		for i, w := range wrongs {
			if choice&(1<<i) == 0 {
				continue
			}
			w.turn(&o)
			if first < 0 {
				first = i
			}
		}
		mustCheck(t, us(), them(), o, 2, wrongs[first].sub, wrongs[first].data)
	}
	mustCheck(t, api.Config{}, api.PeerConf{}, api.Open{}, 2, 7, "\x41\x04\x00\x00\x00\x00")
	mustCheck(t, api.Config{}, api.PeerConf{}, api.Open{Caps: api.Caps{Four: true}}, 2, 3, "")
}

// What else we, the peer and its OPEN are does not count.
func TestCheckAsksNothingElse(t *testing.T) {
	p := them()
	p.In = []api.Rule{{Deny: true, Max: 32}}
	p.Out = []api.Rule{{Min: -1, Max: 77}}
	for _, n := range someNumbers {
		c, o := us(), right()
		p.Num = n
		c.AS, c.Hold, c.GRTime, c.LLTime, c.StaleTime, c.Defer = n, n, n, n, n, n
		o.Caps.Time, o.Caps.LLTime = n, n
		mustCheck(t, c, p, o, 0, 0, "")
	}
}

// Beside a refusal there is a Note that can be told.
func TestCheckCanBeTold(t *testing.T) {
	for _, turn := range []func(o *api.Open){
		func(o *api.Open) { o.Caps.Four = false }, func(o *api.Open) { o.AS++ }, func(o *api.Open) { o.ID = 0 }, func(o *api.Open) { o.Hold = 2 },
	} {
		o := right()
		turn(&o)
		n := Check(us(), them(), o)
		m, wrong := msg.Decode(msg.Encode(api.Msg{Kind: api.KindNote, Note: n}))
		if wrong.Code != 0 || m.Note.Code != n.Code || m.Note.Sub != n.Sub || string(m.Note.Data) != string(n.Data) {
			t.Errorf("%+v: %+v, %+v", n, m.Note, wrong)
		}
	}
}

// The lesser of both, whatever they are: 0 is less than any other Hold that a message has.
func TestHold(t *testing.T) {
	if !slices.IsSorted(someNumbers) {
		t.Fatal("someNumbers do not rise")
	}
	for i, a := range someNumbers {
		for j, b := range someNumbers {
			c, o := us(), right()
			c.Hold, o.Hold = a, b
			mustHold(t, c, o, someNumbers[min(i, j)])
		}
	}
	mustHold(t, api.Config{Hold: 90}, api.Open{}, 0)
	mustHold(t, api.Config{}, api.Open{Hold: 90}, 0)
	mustHold(t, api.Config{}, api.Open{}, 0)
}

// Hold asks for nothing but Hold.
func TestHoldAsksNothingElse(t *testing.T) {
	for _, n := range someNumbers {
		c := api.Config{AS: n, ID: uint32(n), Next: uint32(n), Hold: 40, GRTime: n, LLTime: n, StaleTime: n, Defer: n}
		o := api.Open{AS: n, Hold: 50, ID: uint32(n), Caps: api.Caps{AS4: n, Time: n, LLTime: n}}
		mustHold(t, c, o, 40)
		c.Hold, o.Hold = o.Hold, c.Hold
		mustHold(t, c, o, 40)
	}
}

// checkByWord tells the chapter's sentence on Check: all that is wrong, in its order; the first counts.
func checkByWord(c api.Config, p api.PeerConf, o api.Open) (int, int, string) {
	var subs []int
	if !o.Caps.Four {
		subs = append(subs, 7)
	}
	if o.AS-p.AS != 0 {
		subs = append(subs, 2)
	}
	if slices.Contains([]uint32{0, c.ID}, o.ID) {
		subs = append(subs, 3)
	}
	if slices.Contains([]int{1, 2}, o.Hold) {
		subs = append(subs, 6)
	}
	switch {
	case len(subs) == 0:
		return 0, 0, ""
	case subs[0] == 7:
		return 2, 7, lacked(c.AS)
	}
	return 2, subs[0], ""
}

func TestCheckAsTheSentenceSays(t *testing.T) {
	source := rand.New(rand.NewSource(18))
	number := func() int { return someNumbers[source.Intn(len(someNumbers))] }
	seen := map[int]int{}
	for range 50000 {
		c, p := us(), them()
		c.AS, c.ID, p.AS = number(), someIDs[source.Intn(len(someIDs))], number()
		o := api.Open{AS: number(), Hold: number(), ID: someIDs[source.Intn(len(someIDs))], Caps: api.Caps{Four: source.Intn(5) > 0, AS4: number()}}
		if source.Intn(5) > 0 {
			o.AS = p.AS
		}
		if source.Intn(5) == 0 {
			o.Hold = 1 + source.Intn(2)
		}
		code, sub, data := checkByWord(c, p, o)
		mustCheck(t, c, p, o, code, sub, data)
		seen[sub]++
	}
	for _, sub := range []int{0, 2, 3, 6, 7} {
		if seen[sub] < 1000 {
			t.Errorf("%d: only %d", sub, seen[sub])
		}
	}
}

// Rules R3 and R4: beside no fault there is nothing, and each Data is of its own memory.
func TestMemoryOfNotes(t *testing.T) {
	if n := Check(us(), them(), right()); !reflect.DeepEqual(n, api.Note{}) {
		t.Errorf("%+v", n)
	}
	one, other := Check(us(), them(), api.Open{}), Check(us(), them(), api.Open{})
	for _, b := range []api.Note{one, other} {
		all := b.Data[:cap(b.Data)]
		for i := range all {
			all[i] = 0xee
		}
		mustCheck(t, us(), them(), api.Open{}, 2, 7, lacked(65001))
	}
	one.Data[0] = 1
	if other.Data[0] != 0xee {
		t.Error("two Notes share their Data")
	}
}

// Rules R4 and R5: what is handed in stays, and nothing is kept.
func TestNothingIsChangedOrKept(t *testing.T) {
	room := []api.Rule{{Max: 8, Pref: 1}, {Max: 16, Pref: 2}, {Max: 24, Pref: 3}}
	before := slices.Clone(room)
	p := them()
	p.In, p.Out = room[:1], room[1:2]
	for range 3 {
		mustCheck(t, us(), p, right(), 0, 0, "")
		mustCheck(t, us(), p, api.Open{}, 2, 7, lacked(65001))
		mustOurs(t, api.Config{AS: 5}, true, true, api.Open{AS: 5, Caps: api.Caps{Four: true, AS4: 5, GR: true, Restarting: true, Family: true, Forward: true, LL: true}})
		mustOurs(t, api.Config{AS: 5}, false, false, api.Open{AS: 5, Caps: api.Caps{Four: true, AS4: 5, GR: true, Family: true, LL: true}})
		mustHold(t, us(), right(), 30)
		mustHold(t, us(), api.Open{Hold: 91}, 90)
	}
	if !slices.Equal(room, before) {
		t.Errorf("%+v, was %+v", room, before)
	}
}
