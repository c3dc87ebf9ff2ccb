package stream

import (
	"bytes"
	"math/rand"
	"reflect"
	"strconv"
	"strings"
	"testing"

	"interregnum/api"
	"interregnum/msg"
)

const ff = "\xff\xff\xff\xff\xff\xff\xff\xff\xff\xff\xff\xff\xff\xff\xff\xff"

const alive = ff + "\x00\x13\x04"

// most is how many bytes may wait.
const most = 1048576

// answer is what Next answers.
type answer struct {
	m  api.Msg
	n  api.Note
	ok bool
}

// two answers the two bytes of n.
func two(n int) string { return string([]byte{byte(n >> 8), byte(n)}) }

// message answers the message of that kind with that body.
func message(kind int, body string) string {
	return ff + two(19+len(body)) + string([]byte{byte(kind)}) + body
}

// openMsg, updateMsg, noteMsg and aliveMsg answer good messages of each kind.
func openMsg() api.Msg {
	return api.Msg{Kind: 1, Open: api.Open{AS: 70000, Hold: 90, ID: 0x01020304, Caps: api.Caps{Four: true, AS4: 70000}}}
}

func updateMsg() api.Msg {
	return api.Msg{Kind: 2, Update: api.Update{
		Gone: []api.Prefix{{Addr: 0x0a000000, Len: 8}, {Addr: 0x01020304, Len: 32}},
		Attrs: api.Attrs{
			Origin: 1, Path: []api.Segment{{AS: []int{2, 3}}}, Next: 0x0a000001, Med: -1, Pref: -1,
			Comms: []uint32{7, 9}, Raws: []api.Raw{{Flags: 0xe0, Type: 200, Data: []byte("raw")}},
		},
		Nlri: []api.Prefix{{Addr: 0xc0a80000, Len: 15}},
	}}
}

func noteMsg(data string) api.Msg {
	return api.Msg{Kind: 3, Note: api.Note{Code: 6, Sub: 3, Data: []byte(data)}}
}

func aliveMsg() api.Msg { return api.Msg{Kind: 4} }

// all answers a good message of each kind, and the longest one.
func all() []api.Msg {
	return []api.Msg{openMsg(), updateMsg(), noteMsg("bye"), aliveMsg(), noteMsg(strings.Repeat("x", 4096-21)), aliveMsg()}
}

// text answers the bytes of all the messages, one behind the other.
func text(list ...api.Msg) string {
	var b strings.Builder
	for _, m := range list {
		b.Write(msg.Encode(m))
	}
	return b.String()
}

// wrongHead are bytes of which Head has a Note, each with it.
func wrongHead() map[string]api.Note {
	return map[string]api.Note{
		strings.Repeat("\x00", 19):           {Code: 1, Sub: 1},
		ff[:15] + "\xfe\x00\x13\x04":         {Code: 1, Sub: 1},
		ff + "\x00\x12\x04":                  {Code: 1, Sub: 2, Data: []byte("\x00\x12")},
		ff + "\x00\x00\x04":                  {Code: 1, Sub: 2, Data: []byte("\x00\x00")},
		ff + "\x10\x01\x02":                  {Code: 1, Sub: 2, Data: []byte("\x10\x01")},
		ff + "\xff\xff\x02":                  {Code: 1, Sub: 2, Data: []byte("\xff\xff")},
		ff + "\x00\x13\x05":                  {Code: 1, Sub: 3, Data: []byte("\x05")},
		ff + "\x00\x13\x00":                  {Code: 1, Sub: 3, Data: []byte("\x00")},
		ff + "\x00\x14\x04":                  {Code: 1, Sub: 2, Data: []byte("\x00\x14")},
		ff + "\x00\x1c\x01":                  {Code: 1, Sub: 2, Data: []byte("\x00\x1c")},
		ff + "\x00\x16\x02":                  {Code: 1, Sub: 2, Data: []byte("\x00\x16")},
		ff + "\x00\x14\x03":                  {Code: 1, Sub: 2, Data: []byte("\x00\x14")},
		ff + "\x00\x14\x04" + "\x00" + alive: {Code: 1, Sub: 2, Data: []byte("\x00\x14")},
	}
}

// wrongBody are whole messages with a right head of which Decode has a Note, each with it.
func wrongBody() map[string]api.Note {
	return map[string]api.Note{
		message(1, "\x03\x00\x01\x00\x5a\x01\x02\x03\x04\x00"):         {Code: 2, Sub: 1, Data: []byte("\x00\x04")},
		message(1, "\x04\x00\x01\x00\x5a\x01\x02\x03\x04\x01"):         {Code: 2, Sub: 0},
		message(1, "\x04\x00\x00\x00\x5a\x01\x02\x03\x04\x00"):         {Code: 2, Sub: 2},
		message(2, "\x00\x01\x00\x00"):                                 {Code: 3, Sub: 1},
		message(2, "\x00\x01\x21\x00\x00"):                             {Code: 3, Sub: 10},
		message(2, "\x00\x00\x00\x00\x08\x0a"):                         {Code: 3, Sub: 3, Data: []byte("\x01")},
		message(2, "\x00\x00\x00\x04\x40\x01\x01\x05"):                 {Code: 3, Sub: 6, Data: []byte("\x40\x01\x01\x05")},
		message(2, "\x00\x00\x00\x04\x40\x01\x01\x05"+"\x08\x0a\x00"):  {Code: 3, Sub: 6, Data: []byte("\x40\x01\x01\x05")},
		message(2, "\x00\x00\x00\x05\x40\x01\x02\x00\x00\x10\x0a\x01"): {Code: 3, Sub: 5, Data: []byte("\x40\x01\x02\x00\x00")},
	}
}

// bare answers a copy of x, in memory of its own, in which no list is nil.
func bare(x answer) answer {
	x.n.Data = append([]byte{}, x.n.Data...)
	x.m.Note.Data = append([]byte{}, x.m.Note.Data...)
	u := &x.m.Update
	u.Gone, u.Nlri = append([]api.Prefix{}, u.Gone...), append([]api.Prefix{}, u.Nlri...)
	segments, raws := u.Attrs.Path, u.Attrs.Raws
	u.Attrs.Path, u.Attrs.Raws = []api.Segment{}, []api.Raw{}
	u.Attrs.Comms = append([]uint32{}, u.Attrs.Comms...)
	for _, s := range segments {
		u.Attrs.Path = append(u.Attrs.Path, api.Segment{Set: s.Set, AS: append([]int{}, s.AS...)})
	}
	for _, r := range raws {
		u.Attrs.Raws = append(u.Attrs.Raws, api.Raw{Flags: r.Flags, Type: r.Type, Data: append([]byte{}, r.Data...)})
	}
	return x
}

// same tells if two answers are; nil and empty lists are the same.
func same(x, y answer) bool { return reflect.DeepEqual(bare(x), bare(y)) }

// next answers what Next answers.
func next(s *Stream) answer {
	m, n, ok := s.Next()
	return answer{m, n, ok}
}

// fed answers a Stream that was fed with these, in their order.
func fed(parts ...string) *Stream {
	s := New()
	for _, part := range parts {
		s.Feed([]byte(part))
	}
	return s
}

func mustNext(t *testing.T, what string, s *Stream, want answer, left int) {
	t.Helper()
	if got := next(s); !same(got, want) || s.Left() != left {
		t.Errorf("%s: %+v, Left %d, want %+v, Left %d", what, got, s.Left(), want, left)
	}
}

func mustTake(t *testing.T, what string, s *Stream, m api.Msg, left int) {
	t.Helper()
	mustNext(t, what, s, answer{m: m, ok: true}, left)
}

func mustTell(t *testing.T, what string, s *Stream, n api.Note, left int) {
	t.Helper()
	mustNext(t, what, s, answer{n: n, ok: true}, left)
}

func mustWait(t *testing.T, what string, s *Stream, left int) {
	t.Helper()
	mustNext(t, what, s, answer{}, left)
}

func TestExampleOfTheChapter(t *testing.T) {
	s := New()
	for i := range len(alive) {
		mustWait(t, "a KEEPALIVE that is not whole", s, i)
		s.Feed([]byte{alive[i]})
	}
	mustTake(t, "a KEEPALIVE byte by byte", s, aliveMsg(), 0)
	mustWait(t, "behind the one message", s, 0)
}

// Example 8 of the whole: nineteen bytes 0.
func TestNineteenBytesOfZero(t *testing.T) {
	mustTell(t, "nineteen bytes 0", fed(strings.Repeat("\x00", 19)), api.Note{Code: 1, Sub: 1}, 19)
}

func TestNilStream(t *testing.T) {
	var s *Stream
	for range 2 {
		mustWait(t, "a nil Stream", s, 0)
		s.Feed(nil)
		s.Feed([]byte(alive))
		s.Feed(make([]byte, most+1))
	}
}

func TestNewStream(t *testing.T) {
	s, other := New(), New()
	if s == nil || s == other {
		t.Fatalf("%p, %p", s, other)
	}
	s.Feed([]byte(alive))
	mustWait(t, "another Stream", other, 0)
	mustTake(t, "the one that was fed", s, aliveMsg(), 0)
}

// A Stream that no New made is as one in which nothing waits.
func TestZeroStream(t *testing.T) {
	var s Stream
	mustWait(t, "a zero Stream", &s, 0)
	s.Feed([]byte(alive))
	mustTake(t, "a zero Stream", &s, aliveMsg(), 0)
}

func TestFeedOfNothing(t *testing.T) {
	s := fed("", alive[:10], "")
	s.Feed(nil)
	mustWait(t, "ten bytes", s, 10)
	s.Feed([]byte(alive[10:]))
	s.Feed(nil)
	mustTake(t, "a KEEPALIVE", s, aliveMsg(), 0)
}

func TestAllMessagesInOneFeed(t *testing.T) {
	s, left := fed(text(all()...)), len(text(all()...))
	for _, m := range all() {
		left -= len(text(m))
		mustTake(t, "in one Feed", s, m, left)
	}
	mustWait(t, "behind all", s, 0)
}

// However the bytes are cut, the messages are the same, and none comes early or late.
func TestAnyCut(t *testing.T) {
	list := all()
	whole := text(list...)
	for _, size := range []int{1, 2, 3, 18, 19, 20, 37, 38, 100, 4095, 4096, 4097} {
		s, at, taken, done := New(), 0, 0, 0
		for at < len(whole) {
			end := min(at+size, len(whole))
			s.Feed([]byte(whole[at:end]))
			at = end
			for done < len(list) && taken+len(text(list[done])) <= at {
				taken += len(text(list[done]))
				mustTake(t, "pieces of "+strconv.Itoa(size), s, list[done], at-taken)
				done++
			}
			mustWait(t, "pieces of "+strconv.Itoa(size), s, at-taken)
		}
		if done != len(list) || s.Left() != 0 {
			t.Errorf("pieces of %d: %d messages, Left %d", size, done, s.Left())
		}
	}
}

// What is no whole message is waited for, as often as one asks, and is not lost.
func TestEveryBeginningIsWaitedFor(t *testing.T) {
	for _, m := range all() {
		whole := text(m)
		for i := range len(whole) {
			s := fed(whole[:i])
			mustWait(t, "a beginning", s, i)
			mustWait(t, "a beginning, again", s, i)
			s.Feed([]byte(whole[i:]))
			mustTake(t, "the whole", s, m, 0)
		}
	}
}

// Of fewer than nineteen bytes nothing is told, whatever they are.
func TestWrongBytesThatAreFew(t *testing.T) {
	for wrong := range wrongHead() {
		for i := range 19 {
			mustWait(t, "wrong bytes that are few", fed(wrong[:i]), i)
		}
	}
}

// What Head tells is told as soon as there are nineteen bytes, again and again, and nothing is taken.
func TestNoteOfHead(t *testing.T) {
	for wrong, n := range wrongHead() {
		s := fed(wrong)
		for range 3 {
			mustTell(t, "a wrong head", s, n, len(wrong))
		}
		s = fed(wrong[:18])
		mustWait(t, "eighteen bytes", s, 18)
		s.Feed([]byte(wrong[18:]))
		mustTell(t, "the others", s, n, len(wrong))
	}
}

func TestNoteOfHeadStays(t *testing.T) {
	for wrong, n := range wrongHead() {
		for _, asked := range []bool{false, true} {
			s, left := fed(wrong), len(wrong)
			if asked {
				mustTell(t, "a wrong head", s, n, left)
			}
			for _, more := range []string{"", alive, "\x00", ff, text(all()...)} {
				s.Feed([]byte(more))
				left += len(more)
				mustTell(t, "bytes behind a wrong head", s, n, left)
				mustTell(t, "bytes behind a wrong head, again", s, n, left)
			}
		}
	}
}

func TestNoteOfHeadBehindMessages(t *testing.T) {
	for wrong, n := range wrongHead() {
		s := fed(text(updateMsg(), aliveMsg()), wrong, alive)
		mustTake(t, "ahead of a wrong head", s, updateMsg(), 19+len(wrong)+19)
		mustTake(t, "ahead of a wrong head", s, aliveMsg(), len(wrong)+19)
		for range 3 {
			mustTell(t, "a wrong head", s, n, len(wrong)+19)
		}
	}
}

// Of a wrong body the message's bytes are taken, once; the Note is told again and again.
func TestNoteOfDecode(t *testing.T) {
	for wrong, n := range wrongBody() {
		for _, rest := range []string{"", "\x00", alive, text(all()...), strings.Repeat("\x00", 19), wrong} {
			s := fed(wrong, rest)
			for range 3 {
				mustTell(t, "a wrong body", s, n, len(rest))
			}
		}
	}
}

func TestNoteOfDecodeStays(t *testing.T) {
	for wrong, n := range wrongBody() {
		s, left := fed(wrong), 0
		mustTell(t, "a wrong body", s, n, left)
		for _, more := range []string{"", alive, "\x00", strings.Repeat("\x00", 40), text(all()...)} {
			s.Feed([]byte(more))
			left += len(more)
			mustTell(t, "bytes behind a wrong body", s, n, left)
			mustTell(t, "bytes behind a wrong body, again", s, n, left)
		}
		s.Feed(make([]byte, most-left+1))
		mustTell(t, "too many behind a wrong body", s, n, left)
		s.Feed(make([]byte, most-left))
		mustTell(t, "as many as may be behind a wrong body", s, n, most)
	}
}

func TestNoteOfDecodeBehindMessages(t *testing.T) {
	for wrong, n := range wrongBody() {
		s := fed(text(openMsg(), noteMsg("")), wrong, alive)
		mustTake(t, "ahead of a wrong body", s, openMsg(), 21+len(wrong)+19)
		mustTake(t, "ahead of a wrong body", s, noteMsg(""), len(wrong)+19)
		for range 3 {
			mustTell(t, "a wrong body", s, n, 19)
		}
	}
}

// A wrong body is not told till it is whole.
func TestWrongBodyIsWaitedFor(t *testing.T) {
	for wrong, n := range wrongBody() {
		for i := range len(wrong) {
			s := fed(wrong[:i])
			mustWait(t, "a beginning of a wrong body", s, i)
			s.Feed([]byte(wrong[i:]))
			mustTell(t, "the whole", s, n, 0)
		}
	}
}

// A NOTIFICATION that a peer sent is a message: there is no Note, and others come behind it.
func TestNotificationIsNoNote(t *testing.T) {
	s := fed(text(noteMsg("bye"), aliveMsg()))
	mustTake(t, "a NOTIFICATION", s, noteMsg("bye"), 19)
	mustTake(t, "behind it", s, aliveMsg(), 0)
}

func TestFeedAtTheLimit(t *testing.T) {
	for _, c := range []struct{ there, more, left int }{
		{0, most, most},
		{0, most + 1, 0},
		{0, 2 * most, 0},
		{1, most - 1, most},
		{1, most, 1},
		{most - 1, 1, most},
		{most - 1, 2, most - 1},
		{most, 0, most},
		{most, 1, most},
		{most, most, most},
	} {
		s := New()
		s.Feed(make([]byte, c.there))
		s.Feed(make([]byte, c.more))
		if s.Left() != c.left {
			t.Errorf("%d bytes behind %d: Left %d, want %d", c.more, c.there, s.Left(), c.left)
		}
	}
}

// What is too much is left out whole, and what was there is as it was.
func TestFeedOfTooMuchChangesNothing(t *testing.T) {
	s := fed(alive[:7])
	s.Feed([]byte(alive[7:] + strings.Repeat("\x00", most)))
	mustWait(t, "too much", s, 7)
	s.Feed([]byte(alive[7:]))
	mustTake(t, "behind too much", s, aliveMsg(), 0)
}

// What is taken makes room.
func TestRoomBehindNext(t *testing.T) {
	s := fed(alive, text(updateMsg()))
	filling := most - s.Left()
	s.Feed(bytes.Repeat([]byte{0xff}, filling))
	s.Feed([]byte{0xff})
	mustTake(t, "of a full one", s, aliveMsg(), most-19)
	s.Feed(make([]byte, 20))
	mustTake(t, "behind too much", s, updateMsg(), filling)
	s.Feed(make([]byte, most-filling))
	mustTell(t, "ff is no size", s, api.Note{Code: 1, Sub: 2, Data: []byte("\xff\xff")}, most)
}

// As many messages as may wait come out one by one, and the next ones behind them.
func TestManyMessages(t *testing.T) {
	count := most / 19
	s := New()
	for range 3 {
		s.Feed([]byte(strings.Repeat(alive, count)))
		for i := range count {
			if m, n, ok := s.Next(); !ok || n.Code != 0 || m.Kind != 4 || s.Left() != (count-1-i)*19 {
				t.Fatalf("message %d: %+v, %+v, %v, Left %d", i, m, n, ok, s.Left())
			}
		}
		mustWait(t, "behind all", s, 0)
	}
}

// More than may wait at once comes through, a byte at a time.
func TestMoreThanMayWait(t *testing.T) {
	whole := text(all()...)
	s, came := New(), 0
	for range most/len(whole) + 2 {
		for i := range len(whole) {
			s.Feed([]byte{whole[i]})
			if _, n, ok := s.Next(); ok && n.Code == 0 {
				came++
			}
		}
	}
	if want := (most/len(whole) + 2) * len(all()); came != want || s.Left() != 0 {
		t.Errorf("%d messages, Left %d, want %d", came, s.Left(), want)
	}
}

func TestManySmallFeeds(t *testing.T) {
	s := New()
	for range most + 5 {
		s.Feed([]byte{0xff})
	}
	mustTell(t, "ff is no size", s, api.Note{Code: 1, Sub: 2, Data: []byte("\xff\xff")}, most)
}

// spoil writes over all of b, spare room included.
func spoil(b []byte) {
	for i := range b[:cap(b)] {
		b[:cap(b)][i] ^= 0x55
	}
}

// spoilAnswer writes over all lists of x.
func spoilAnswer(x answer) {
	spoil(x.n.Data)
	spoil(x.m.Note.Data)
	u := x.m.Update
	for _, list := range [][]api.Prefix{u.Gone, u.Nlri} {
		clear(list[:cap(list)])
	}
	for _, s := range u.Attrs.Path {
		clear(s.AS[:cap(s.AS)])
	}
	for _, r := range u.Attrs.Raws {
		spoil(r.Data)
	}
	clear(u.Attrs.Comms[:cap(u.Attrs.Comms)])
}

// Rule R4: what is fed is not changed, spare room included, and not kept.
func TestFeedSharesNothing(t *testing.T) {
	whole := text(all()...)
	for _, cut := range []int{0, 5, 19, 60, len(whole)} {
		s := New()
		room := append([]byte(whole), "behind it"...)
		before := bytes.Clone(room)
		s.Feed(room[:cut])
		s.Feed([]byte(whole[cut:]))
		s.Feed([]byte("a"))
		for _, m := range all() {
			if got := next(s); !same(got, answer{m: m, ok: true}) {
				t.Errorf("cut at %d: %+v, want %+v", cut, got, m)
			}
			if !bytes.Equal(room, before) {
				t.Fatalf("cut at %d: what was fed is another", cut)
			}
		}
	}
	s, b := New(), []byte(whole)
	s.Feed(b)
	spoil(b)
	for _, m := range all() {
		if got := next(s); !same(got, answer{m: m, ok: true}) {
			t.Errorf("what was fed is spoilt: %+v, want %+v", got, m)
		}
	}
}

// Rule R4: what is answered stays, whatever comes, and what becomes of it changes nothing that waits.
func TestAnswersShareNothing(t *testing.T) {
	for _, m := range all() {
		s, want := fed(text(m, m, m)), answer{m: m, ok: true}
		first := next(s)
		spoilAnswer(next(s))
		s.Feed(bytes.Repeat([]byte{0x5a}, 9000))
		if got := next(s); !same(got, want) || !same(first, want) {
			t.Errorf("%+v, %+v, want %+v", first, got, want)
		}
	}
}

// Rule R4: a Note that is told again is the same, whatever became of those that were told, the first one or another.
func TestNotesShareNothing(t *testing.T) {
	for _, table := range []map[string]api.Note{wrongHead(), wrongBody()} {
		for wrong, n := range table {
			for spoilt := range 4 {
				s, want, kept := fed(wrong, alive), answer{n: n, ok: true}, []answer{}
				for i := range 4 {
					got := next(s)
					if i == spoilt {
						spoilAnswer(got)
						continue
					}
					kept = append(kept, got)
				}
				s.Feed(bytes.Repeat([]byte{0x5a}, 9000))
				for _, got := range append(kept, next(s)) {
					if !same(got, want) {
						t.Errorf("%x, spoilt %d: %+v, want %+v", wrong, spoilt, got, want)
					}
				}
			}
		}
	}
}

// twin tells the chapter's sentence a second time, by texts: all that came, where what was not taken begins, and the answer that stays.
type twin struct {
	came  string
	taken int
	stays *answer
}

func (w *twin) feed(part string) {
	if len(w.came)-w.taken+len(part) <= most {
		w.came += part
	}
}

func (w *twin) next() answer {
	if w.stays != nil {
		return *w.stays
	}
	there := w.came[w.taken:]
	size, n := msg.Head([]byte(there))
	x := answer{n: n, ok: n.Code != 0}
	if !x.ok && size > 0 && size <= len(there) {
		x.m, x.n = msg.Decode([]byte(there[:size]))
		x.ok = true
		w.taken += size
	}
	if x.n.Code != 0 {
		w.stays = &x
	}
	return x
}

// somePiece answers bytes of messages of which some are wrong.
func somePiece(source *rand.Rand) string {
	list := all()
	b := []byte(text(list[source.Intn(len(list))], list[source.Intn(4)]))
	if source.Intn(6) == 0 {
		b[source.Intn(min(len(b), 60))] = byte(source.Intn(256))
	}
	return string(b)
}

func TestAllAsTheSentenceSays(t *testing.T) {
	source := rand.New(rand.NewSource(10))
	taken, told, waited := 0, 0, 0
	for range 3000 {
		s, w, rest := New(), &twin{}, ""
		for range 40 {
			switch source.Intn(3) {
			case 0:
				if len(rest) == 0 {
					rest = somePiece(source)
				}
				size := 1 + source.Intn(len(rest))
				s.Feed([]byte(rest[:size]))
				w.feed(rest[:size])
				rest = rest[size:]
			default:
				got, want := next(s), w.next()
				if !same(got, want) {
					t.Fatalf("%x from %d on: %+v, want %+v", w.came, w.taken, got, want)
				}
				switch {
				case !got.ok:
					waited++
				case got.n.Code != 0:
					told++
				default:
					taken++
				}
			}
			if s.Left() != len(w.came)-w.taken {
				t.Fatalf("%x from %d on: Left %d", w.came, w.taken, s.Left())
			}
		}
	}
	if taken < 5000 || told < 2000 || waited < 5000 {
		t.Errorf("%d were taken, %d told, %d waited for", taken, told, waited)
	}
}

// Rule R5: the same calls on a new Stream have the same answers, whatever others were given.
func TestNothingIsKeptElsewhere(t *testing.T) {
	for range 3 {
		for wrong, n := range wrongBody() {
			mustTell(t, "a wrong body", fed(wrong), n, 0)
			mustTake(t, "a Stream of its own", fed(alive), aliveMsg(), 0)
		}
	}
}
