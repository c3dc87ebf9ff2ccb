package peer

import (
	"math"
	"math/rand"
	"reflect"
	"slices"
	"testing"

	"interregnum/api"
	"interregnum/nego"
)

// someStates are the states there are, someKinds those of messages, and some that there are not.
var (
	someStates = []int{0, 1, 2, 3}
	someKinds  = []int{1, 2, 3, 4, 0, 5, 6, 7, -1, -2, -3, -4, 255, 256, 257, 258, 260, 1 << 32, 1<<32 + 1, 1<<32 + 4, math.MaxInt, math.MinInt, math.MinInt + 1}
)

func us() api.Config { return api.Config{AS: 65001, ID: 7, Hold: 90, GRTime: 120, LLTime: 3600} }

func them() api.PeerConf { return api.PeerConf{Num: 3, AS: 65002} }

// right answers the OPEN of them that nothing is wrong with.
func right() api.Open {
	return api.Open{AS: 65002, Hold: 30, ID: 8, Caps: api.Caps{Four: true, AS4: 65002, GR: true, Time: 120, Family: true, Forward: true, LL: true, LLTime: 600}}
}

// earlier answers an OPEN that was taken in an earlier session.
func earlier() api.Open {
	return api.Open{AS: 65009, Hold: 45, ID: 9, Caps: api.Caps{Four: true, AS4: 65009, GR: true, Restarting: true, Time: 77, Family: true}}
}

// full answers a message of that kind, all fields of which are there.
func full(kind int) api.Msg {
	return api.Msg{
		Kind: kind,
		Open: right(),
		Update: api.Update{
			Gone:  []api.Prefix{{Addr: 0x0a000000, Len: 8}},
			Attrs: api.Attrs{Path: []api.Segment{{AS: []int{65002}}}, Next: 5, Med: 3, Pref: 100, Comms: []uint32{1}, Raws: []api.Raw{{Flags: 192, Type: 99, Data: []byte{1}}}},
			Nlri:  []api.Prefix{{Addr: 0x0b000000, Len: 8}},
		},
		Note: api.Note{Code: 6, Sub: 2, Data: []byte{1, 2, 3}},
	}
}

// mustTake asks for the state, the event and the Note of a session with Theirs of an earlier one, and that Theirs is as told.
func mustTake(t *testing.T, p Peer, m api.Msg, want Peer, event int, note api.Note) {
	t.Helper()
	q, e, n := Take(us(), them(), p, m)
	if q != want || e != event || !reflect.DeepEqual(n, note) {
		t.Fatalf("Take(%+v, %+v): %+v, %d, %+v, want %+v, %d, %+v", p, m, q, e, n, want, event, note)
	}
}

func TestTheNumbers(t *testing.T) {
	for i, n := range []int{Idle, OpenSent, OpenConfirm, Up} {
		if n != i {
			t.Errorf("state %d: %d", i, n)
		}
	}
	for i, n := range []int{Nothing, Opened, Settled, Routes, Ended} {
		if n != i {
			t.Errorf("event %d: %d", i, n)
		}
	}
}

func TestTheChaptersExample(t *testing.T) {
	mustTake(t, Peer{State: 1}, api.Msg{Kind: api.KindAlive}, Peer{}, 4, api.Note{Code: 5, Sub: 1})
}

func TestConn(t *testing.T) {
	for _, theirs := range []api.Open{{}, right(), earlier()} {
		for _, state := range someStates {
			p := Peer{State: state, Theirs: theirs}
			want := p
			if state == 0 {
				want.State = 1
			}
			if q, ok := Conn(p); q != want || ok != (state == 0) {
				t.Errorf("Conn(%+v): %+v, %v", p, q, ok)
			}
		}
	}
}

func TestReset(t *testing.T) {
	for _, theirs := range []api.Open{{}, right(), earlier()} {
		for _, state := range someStates {
			if q := Reset(Peer{State: state, Theirs: theirs}); q != (Peer{Theirs: theirs}) {
				t.Errorf("%d: %+v", state, q)
			}
		}
	}
}

// Whatever comes where there is no connection is nothing.
func TestTakeWhenIdle(t *testing.T) {
	for _, theirs := range []api.Open{{}, right(), earlier()} {
		for _, kind := range someKinds {
			p := Peer{Theirs: theirs}
			mustTake(t, p, full(kind), p, 0, api.Note{})
			mustTake(t, p, api.Msg{Kind: kind}, p, 0, api.Note{})
		}
	}
}

// A NOTIFICATION ends a session in each state, and is not answered, whatever it says.
func TestTakeOfANotification(t *testing.T) {
	for _, state := range []int{1, 2, 3} {
		for _, note := range []api.Note{{}, {Code: 6, Sub: 4}, {Code: 5, Sub: state}, {Code: -1, Sub: math.MaxInt, Data: []byte{1, 2}}} {
			m := full(api.KindNote)
			m.Note = note
			mustTake(t, Peer{State: state, Theirs: earlier()}, m, Peer{Theirs: earlier()}, 4, api.Note{})
			mustTake(t, Peer{State: state}, m, Peer{}, 4, api.Note{})
		}
	}
}

func TestTakeOfARightOpen(t *testing.T) {
	for _, theirs := range []api.Open{{}, earlier(), right()} {
		mustTake(t, Peer{State: 1, Theirs: theirs}, full(api.KindOpen), Peer{State: 2, Theirs: right()}, 1, api.Note{})
	}
	// All of it is kept, not what stands in what there was.
	o := api.Open{AS: 65002, ID: 11, Caps: api.Caps{Four: true}}
	mustTake(t, Peer{State: 1, Theirs: earlier()}, api.Msg{Kind: api.KindOpen, Open: o}, Peer{State: 2, Theirs: o}, 1, api.Note{})
}

// An OPEN that chapter 18 refuses is not kept: what was taken ahead of it stays.
func TestTakeOfAWrongOpen(t *testing.T) {
	wrongs := []struct {
		turn func(o *api.Open)
		note api.Note
	}{
		{func(o *api.Open) { o.Caps.Four = false }, api.Note{Code: 2, Sub: 7, Data: []byte{0x41, 4, 0, 0, 0xfd, 0xe9}}},
		{func(o *api.Open) { o.AS++ }, api.Note{Code: 2, Sub: 2}},
		{func(o *api.Open) { o.ID = 0 }, api.Note{Code: 2, Sub: 3}},
		{func(o *api.Open) { o.ID = 7 }, api.Note{Code: 2, Sub: 3}},
		{func(o *api.Open) { o.Hold = 1 }, api.Note{Code: 2, Sub: 6}},
		{func(o *api.Open) { o.Hold = 2 }, api.Note{Code: 2, Sub: 6}},
		{func(o *api.Open) { *o = api.Open{} }, api.Note{Code: 2, Sub: 7, Data: []byte{0x41, 4, 0, 0, 0xfd, 0xe9}}},
	}
	for _, w := range wrongs {
		m := full(api.KindOpen)
		w.turn(&m.Open)
		mustTake(t, Peer{State: 1, Theirs: earlier()}, m, Peer{Theirs: earlier()}, 4, w.note)
		mustTake(t, Peer{State: 1}, m, Peer{}, 4, w.note)
		// Where no OPEN is awaited, it is not looked at.
		mustTake(t, Peer{State: 2, Theirs: earlier()}, m, Peer{Theirs: earlier()}, 4, api.Note{Code: 5, Sub: 2})
		mustTake(t, Peer{State: 3, Theirs: earlier()}, m, Peer{Theirs: earlier()}, 4, api.Note{Code: 5, Sub: 3})
	}
}

// It is asked against the Config and the peer that are handed in.
func TestTakeAsksTheConfigAndThePeer(t *testing.T) {
	c, conf, p := us(), them(), Peer{State: 1}
	conf.AS = 65003
	if q, e, n := Take(c, conf, p, full(api.KindOpen)); q != (Peer{}) || e != 4 || n.Code != 2 || n.Sub != 2 {
		t.Error(q, e, n)
	}
	c.ID = 8
	if q, e, n := Take(c, them(), p, full(api.KindOpen)); q != (Peer{}) || e != 4 || n.Code != 2 || n.Sub != 3 {
		t.Error(q, e, n)
	}
	c.AS = 0x01020304
	if _, _, n := Take(c, them(), p, api.Msg{Kind: api.KindOpen}); n.Sub != 7 || string(n.Data) != "\x41\x04\x01\x02\x03\x04" {
		t.Error(n)
	}
}

func TestTakeInOpenSent(t *testing.T) {
	for _, kind := range someKinds {
		if kind != api.KindOpen && kind != api.KindNote {
			mustTake(t, Peer{State: 1, Theirs: earlier()}, full(kind), Peer{Theirs: earlier()}, 4, api.Note{Code: 5, Sub: 1})
		}
	}
}

func TestTakeInOpenConfirm(t *testing.T) {
	for _, kind := range someKinds {
		switch kind {
		case api.KindNote:
		case api.KindAlive:
			mustTake(t, Peer{State: 2, Theirs: earlier()}, full(kind), Peer{State: 3, Theirs: earlier()}, 2, api.Note{})
		default:
			mustTake(t, Peer{State: 2, Theirs: earlier()}, full(kind), Peer{Theirs: earlier()}, 4, api.Note{Code: 5, Sub: 2})
		}
	}
}

func TestTakeWhenUp(t *testing.T) {
	p := Peer{State: 3, Theirs: earlier()}
	for _, kind := range someKinds {
		switch kind {
		case api.KindNote:
		case api.KindAlive:
			mustTake(t, p, full(kind), p, 0, api.Note{})
		case api.KindUpdate:
			mustTake(t, p, full(kind), p, 3, api.Note{})
			mustTake(t, p, api.Msg{Kind: kind}, p, 3, api.Note{})
		default:
			mustTake(t, p, full(kind), Peer{Theirs: earlier()}, 4, api.Note{Code: 5, Sub: 3})
		}
	}
}

// A whole session, and what is known of the peer behind it, and in the next one till its OPEN.
func TestOneSessionBehindTheOther(t *testing.T) {
	p, ok := Conn(Peer{})
	for _, step := range []struct{ kind, state, event int }{{1, 2, 1}, {4, 3, 2}, {4, 3, 0}, {2, 3, 3}, {2, 3, 3}, {3, 0, 4}, {1, 0, 0}} {
		var e int
		p, e, _ = Take(us(), them(), p, full(step.kind))
		if !ok || p.State != step.state || e != step.event || p.Theirs != right() {
			t.Fatal(step, p, e)
		}
	}
	p, ok = Conn(p)
	if !ok || p != (Peer{State: 1, Theirs: right()}) {
		t.Fatal(p, ok)
	}
	if p = Reset(p); p != (Peer{Theirs: right()}) {
		t.Fatal(p)
	}
}

// States that there are not are answered, too.
func TestStatesThatThereAreNot(t *testing.T) {
	for _, state := range []int{-1, -2, 4, 5, 7, 1 << 32, 1<<32 + 1, math.MaxInt, math.MinInt} {
		p := Peer{State: state, Theirs: earlier()}
		if q, ok := Conn(p); q != p || ok {
			t.Errorf("Conn(%+v): %+v, %v", p, q, ok)
		}
		for _, kind := range someKinds {
			mustTake(t, p, full(kind), p, 0, api.Note{})
		}
		if q := Reset(p); q != (Peer{Theirs: earlier()}) {
			t.Errorf("Reset(%+v): %+v", p, q)
		}
	}
}

// takeByWord tells the chapter's sentence on Take: of each state and each message a line, and nego's Check asked ahead of it.
func takeByWord(c api.Config, conf api.PeerConf, p Peer, m api.Msg) (Peer, int, api.Note) {
	kept := Peer{0, p.Theirs}
	if p.State == 0 {
		return p, 0, api.Note{}
	}
	if m.Kind == 3 {
		return kept, 4, api.Note{}
	}
	check := nego.Check(c, conf, m.Open)
	type met struct{ state, kind int }
	lines := map[met]struct{ state, event int }{{1, 1}: {2, 1}, {2, 4}: {3, 2}, {3, 4}: {3, 0}, {3, 2}: {3, 3}}
	line, awaited := lines[met{p.State, m.Kind}]
	if !awaited {
		return kept, 4, api.Note{Code: 5, Sub: map[int]int{1: 1, 2: 2, 3: 3}[p.State]}
	}
	if line.event == 1 {
		if check.Code != 0 {
			return kept, 4, check
		}
		return Peer{2, m.Open}, 1, api.Note{}
	}
	return Peer{line.state, p.Theirs}, line.event, api.Note{}
}

func TestTakeAsTheSentenceSays(t *testing.T) {
	source := rand.New(rand.NewSource(19))
	type end struct{ event, code, sub int }
	seen := map[end]int{}
	p := Peer{}
	for range 100000 {
		if q, ok := Conn(p); ok && source.Intn(4) > 0 {
			p = q
		}
		m := full(1 + source.Intn(5))
		if source.Intn(2) == 0 {
			m.Kind = []int{1, 1, 4, 2}[p.State]
		}
		m.Open.AS += source.Intn(8) / 7
		m.Open.ID = uint32(source.Intn(20))
		m.Open.Hold = source.Intn(15)
		m.Open.Caps.Four = source.Intn(8) > 0
		m.Open.Caps.Time = source.Intn(4096)
		q, e, n := Take(us(), them(), p, m)
		wantQ, wantE, wantN := takeByWord(us(), them(), p, m)
		if q != wantQ || e != wantE || !reflect.DeepEqual(n, wantN) {
			t.Fatalf("Take(%+v, %+v): %+v, %d, %+v, want %+v, %d, %+v", p, m, q, e, n, wantQ, wantE, wantN)
		}
		seen[end{e, n.Code, n.Sub}]++
		p = q
	}
	for _, e := range []end{{0, 0, 0}, {1, 0, 0}, {2, 0, 0}, {3, 0, 0}, {4, 0, 0}, {4, 2, 2}, {4, 2, 3}, {4, 2, 6}, {4, 2, 7}, {4, 5, 1}, {4, 5, 2}, {4, 5, 3}} {
		if seen[e] < 300 {
			t.Errorf("%+v: only %d", e, seen[e])
		}
	}
}

// Rules R4 and R5: each Data is of its own memory, what is handed in stays, and nothing is kept.
func TestMemory(t *testing.T) {
	room := []byte{1, 2, 3, 4}
	gone := []api.Prefix{{Len: 1}, {Len: 2}, {Len: 3}}
	rules := []api.Rule{{Max: 8}, {Max: 16}}
	conf := them()
	conf.In, conf.Out = rules[:1], rules[:1]
	for range 3 {
		for _, state := range someStates {
			for _, kind := range someKinds {
				m := api.Msg{Kind: kind, Update: api.Update{Gone: gone[:1], Nlri: gone[1:2]}, Note: api.Note{Data: room[:2]}}
				_, _, one := Take(us(), conf, Peer{State: state}, m)
				_, _, other := Take(us(), conf, Peer{State: state}, m)
				was := string(other.Data)
				all := one.Data[:cap(one.Data)]
				for i := range all {
					all[i] = 0xee
				}
				if string(other.Data) != was {
					t.Fatal("two Notes share their Data")
				}
			}
		}
	}
	if !slices.Equal(room, []byte{1, 2, 3, 4}) || !slices.Equal(gone, []api.Prefix{{Len: 1}, {Len: 2}, {Len: 3}}) || !reflect.DeepEqual(rules, []api.Rule{{Max: 8}, {Max: 16}}) {
		t.Error(room, gone, rules)
	}
}
