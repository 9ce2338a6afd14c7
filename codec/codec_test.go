package codec

import (
	"bytes"
	"math"
	"reflect"
	"slices"
	"strconv"
	"strings"
	"testing"

	"fusebox/api"
	"fusebox/event"
)

// The limits as the document says them, so that a wrong constant shows as well.
const (
	mostSeq   = 1 << 32
	mostTime  = 1 << 40
	mostValue = 1<<31 - 1
	mostNames = 32
	longest   = 24
)

// fresh is a name that is none of the others.
const fresh = "fresh"

// listOf so many names, no two alike.
func listOf(many int) []string {
	var l []string
	for k := range many {
		l = append(l, "n"+strconv.Itoa(k))
	}
	return l
}

// aheads are right: of no, one, some, 31 and 32 names, at the edges of numbers and times.
func aheads() []api.Ctx {
	var l []api.Ctx
	for _, many := range []int{0, 1, 2, 3, 16, 31, 32} {
		for _, x := range [][2]int64{{0, 0}, {10, 100}, {0, 100}, {10, 0}, {1 << 31, 1 << 39}, {mostSeq - 1, mostTime - 1}, {mostSeq - 1, mostTime}, {mostSeq, mostTime}, {mostSeq, 0}} {
			l = append(l, api.Ctx{Seq: x[0], At: x[1], Names: listOf(many)})
		}
	}
	return append(l, api.Ctx{Names: []string{}}, api.Ctx{Names: []string{"n0", "\x00", "\xff\xfe", strings.Repeat("n", longest), "n"}})
}

// wrongAheads are not right, by each reason and by several.
func wrongAheads() []api.Ctx {
	var l []api.Ctx
	for _, n := range []int64{math.MinInt64, math.MinInt64 + 1, -mostSeq, -2, -1, mostSeq + 1, mostSeq + 2, 1 << 40, math.MaxInt64} {
		l = append(l, api.Ctx{Seq: n}, api.Ctx{Seq: n, At: 5, Names: listOf(2)})
	}
	for _, n := range []int64{math.MinInt64, math.MinInt64 + 1, -mostTime, -2, -1, mostTime + 1, mostTime + 2, math.MaxInt64} {
		l = append(l, api.Ctx{At: n}, api.Ctx{Seq: 5, At: n, Names: listOf(2)})
	}
	for _, names := range [][]string{{""}, {"n0", ""}, {"n0", "n0"}, {"n0", "n1", "n0"}, {strings.Repeat("n", longest+1)}, listOf(mostNames + 1), listOf(1000), append(listOf(31), "n30")} {
		l = append(l, api.Ctx{Names: names}, api.Ctx{Seq: 5, At: 5, Names: names})
	}
	return append(l, api.Ctx{Seq: -1, At: -1, Names: []string{""}}, api.Ctx{Seq: mostSeq + 1, At: mostTime + 1, Names: listOf(33)})
}

// kindsOf events with all numbers at their least, at their greatest and between, of one, two, three and more bytes.
func kindsOf() []api.Event {
	var l []api.Event
	values := []int64{0, 1, 2, 127, 128, 129, 255, 256, 300, 16383, 16384, 1 << 21, 1<<28 - 1, 1 << 28, mostValue - 1, mostValue}
	for _, v := range values {
		l = append(l, api.Event{Kind: api.Configure, A: v, B: 1, C: 200}, api.Event{Kind: api.Configure, A: 300, B: v}, api.Event{Kind: api.Configure, B: mostValue, C: v})
		l = append(l, api.Event{Kind: api.Outcome, A: v % 3, B: v}, api.Event{Kind: api.Backoff, A: v})
		l = append(l, api.Event{Kind: api.Admit, A: v}, api.Event{Kind: api.Reject, A: v}, api.Event{Kind: api.Refill, A: v})
		l = append(l, api.Event{Kind: api.Attempt, A: max(v, 1)}, api.Event{Kind: api.GiveUp, A: max(v, 1)})
	}
	for n := range int64(3) {
		l = append(l, api.Event{Kind: api.Register, A: n + 1}, api.Event{Kind: api.Trip, A: n}, api.Event{Kind: api.Outcome, A: n})
	}
	return l
}

// comps are names that are there at the first, a middle and the last place, and others that are new.
func comps(l []string) []string {
	names := []string{fresh, "x", "\x01", "\x80\xff", "N0", "n", "n01", strings.Repeat("z", longest), strings.Repeat("\xff", longest), strings.Repeat("\x00", longest-1)}
	if len(l) > 0 {
		names = append(names, l[0], l[len(l)/2], l[len(l)-1])
	}
	return names
}

// following are events that may follow: each name with each step of number and time, and each kind once.
func following(c api.Ctx) []api.Event {
	var l []api.Event
	room := mostNames - len(c.Names)
	names := slices.DeleteFunc(comps(c.Names), func(s string) bool { return room == 0 && !slices.Contains(c.Names, s) })
	for _, up := range []int64{1, 2, 127, 128, 16384, 1 << 31, mostSeq - c.Seq} {
		for _, late := range []int64{0, 1, 127, 128, 1 << 14, 1 << 35, mostTime - c.At} {
			for _, s := range names {
				l = append(l, api.Event{Seq: c.Seq + up, At: c.At + late, Kind: api.Outcome, Comp: s, A: 1, B: 130})
			}
		}
	}
	for k, e := range kindsOf() {
		if len(names) > 0 {
			e.Seq, e.At, e.Comp = c.Seq+1, c.At, names[k%len(names)]
			l = append(l, e)
		}
	}
	return slices.DeleteFunc(l, func(e api.Event) bool { return e.Seq > mostSeq || e.At > mostTime || e.Seq == c.Seq })
}

// put a number's bytes behind others, by hand.
func put(b []byte, n int64) []byte {
	for n > 127 {
		b = append(b, byte(n&127|128))
		n >>= 7
	}
	return append(b, byte(n))
}

// spelt by hand: an event's bytes.
func spelt(c api.Ctx, e api.Event) []byte {
	b := put(put(put(nil, int64(e.Kind)), e.Seq-c.Seq), e.At-c.At)
	place := slices.Index(c.Names, e.Comp) + 1
	b = put(b, int64(place))
	if place == 0 {
		b = append(put(b, int64(len(e.Comp))), e.Comp...)
	}
	switch e.Kind {
	case api.Configure:
		return put(put(put(b, e.A), e.B), e.C)
	case api.Outcome:
		return put(put(b, e.A), e.B)
	}
	return put(b, e.A)
}

// stands by hand: what stands behind an event.
func stands(c api.Ctx, e api.Event) api.Ctx {
	names := slices.Clone(c.Names)
	if !slices.Contains(names, e.Comp) {
		names = append(names, e.Comp)
	}
	return api.Ctx{Seq: e.Seq, At: e.At, Names: names}
}

// same: are both the same? A list is nil or empty alike.
func same(c, d api.Ctx) bool {
	return c.Seq == d.Seq && c.At == d.At && slices.Equal(c.Names, d.Names)
}

// roomy is the same with spare room behind the names, which holds what nobody may touch.
func roomy(c api.Ctx) (api.Ctx, []string) {
	all := append(slices.Clone(c.Names), "spare", "n0", "")
	c.Names = all[:len(c.Names)]
	return c, all
}

// wantBytes: the event may follow and has these bytes, from which it is read as it was.
func wantBytes(t *testing.T, c api.Ctx, e api.Event, want []byte, behind api.Ctx) {
	t.Helper()
	if b, d, err := Encode(c, e); err != api.OK || !bytes.Equal(b, want) || !same(d, behind) {
		t.Errorf("%v behind %v: %v, %v and %d, want %v and %v", e, c, b, d, err, want, behind)
	}
	if f, d, err := Decode(c, want); err != api.OK || f != e || !same(d, behind) {
		t.Errorf("%v behind %v: %v, %v and %d, want %v and %v", want, c, f, d, err, e, behind)
	}
}

// wantRefused: the event may not follow.
func wantRefused(t *testing.T, c api.Ctx, e api.Event, want api.Errno) {
	t.Helper()
	if b, d, err := Encode(c, e); err != want || len(b) != 0 || !same(d, c) {
		t.Errorf("%v behind %v: %v, %v and %d, want %d", e, c, b, d, err, want)
	}
}

// wantNone: the bytes are none.
func wantNone(t *testing.T, c api.Ctx, b []byte, want api.Errno) {
	t.Helper()
	if e, d, err := Decode(c, b); err != want || e != (api.Event{}) || !same(d, c) {
		t.Errorf("%v behind %v: %v, %v and %d, want %d", b, c, e, d, err, want)
	}
}

// P7.1: what was ahead is right at the edges of its numbers and with up to 32 names, and else it isn't.
func TestRight(t *testing.T) {
	if !Right(api.Ctx{}) || !Right(api.Ctx{Seq: mostSeq, At: mostTime, Names: listOf(mostNames)}) {
		t.Error("the least and the most are wrong")
	}
	for _, c := range aheads() {
		if !Right(c) {
			t.Errorf("%v is wrong", c)
		}
	}
	for _, c := range wrongAheads() {
		if Right(c) {
			t.Errorf("%v is right", c)
		}
	}
}

// P7.1, P7.2: the document's example, and others by hand.
func TestBytesByHand(t *testing.T) {
	ab := api.Ctx{Seq: 10, At: 100, Names: []string{"a", "b"}}
	long := strings.Repeat("n", longest)
	for _, x := range []struct {
		c     api.Ctx
		e     api.Event
		bytes string
		names string
	}{
		{api.Ctx{}, api.Event{Seq: 1, At: 5, Kind: api.Trip, Comp: "db", A: 1}, "\x04\x01\x05\x00\x02db\x01", "db"},
		{ab, api.Event{Seq: 11, At: 100, Kind: api.Register, Comp: "a", A: 3}, "\x01\x01\x00\x01\x03", "a b"},
		{ab, api.Event{Seq: 11, At: 100, Kind: api.Register, Comp: "c", A: 2}, "\x01\x01\x00\x00\x01c\x02", "a b c"},
		{ab, api.Event{Seq: 12, At: 101, Kind: api.Configure, Comp: "b", A: 0, B: 128, C: mostValue}, "\x02\x02\x01\x02\x00\x80\x01\xff\xff\xff\xff\x07", "a b"},
		{ab, api.Event{Seq: 137, At: 227, Kind: api.Outcome, Comp: "b", A: 2, B: 127}, "\x03\x7f\x7f\x02\x02\x7f", "a b"},
		{ab, api.Event{Seq: 138, At: 228, Kind: api.Outcome, Comp: "b", A: 0, B: 300}, "\x03\x80\x01\x80\x01\x02\x00\xac\x02", "a b"},
		{ab, api.Event{Seq: 11, At: 100, Kind: api.Admit, Comp: "B", A: 0}, "\x05\x01\x00\x00\x01B\x00", "a b B"},
		{ab, api.Event{Seq: 11, At: 100, Kind: api.Reject, Comp: "\xff", A: 1}, "\x06\x01\x00\x00\x01\xff\x01", "a b \xff"},
		{ab, api.Event{Seq: 11, At: 100, Kind: api.Refill, Comp: long, A: 1}, "\x07\x01\x00\x00\x18" + long + "\x01", "a b " + long},
		{ab, api.Event{Seq: 11, At: 100, Kind: api.Attempt, Comp: "a", A: 1}, "\x08\x01\x00\x01\x01", "a b"},
		{ab, api.Event{Seq: 11, At: 100, Kind: api.Backoff, Comp: "a", A: 0}, "\x09\x01\x00\x01\x00", "a b"},
		{ab, api.Event{Seq: 11, At: 100, Kind: api.GiveUp, Comp: "b", A: 16384}, "\x0a\x01\x00\x02\x80\x80\x01", "a b"},
		{api.Ctx{}, api.Event{Seq: mostSeq, At: mostTime, Kind: api.Trip, Comp: "a"}, "\x04\x80\x80\x80\x80\x10\x80\x80\x80\x80\x80\x20\x00\x01a\x00", "a"},
		{api.Ctx{Seq: mostSeq - 1, At: mostTime, Names: []string{"a"}}, api.Event{Seq: mostSeq, At: mostTime, Kind: api.Trip, Comp: "a"}, "\x04\x01\x00\x01\x00", "a"},
	} {
		wantBytes(t, x.c, x.e, []byte(x.bytes), api.Ctx{Seq: x.e.Seq, At: x.e.At, Names: strings.Fields(x.names)})
	}
}

// P7.1, P7.2, P7.3: all events that may follow, of each kind and name, with each step, have just their bytes and are read as they were.
func TestFollowing(t *testing.T) {
	for _, c := range aheads() {
		for _, e := range following(c) {
			wantBytes(t, c, e, spelt(c, e), stands(c, e))
		}
	}
}

// P7.1: names of each length and of whichever bytes, new and known.
func TestNames(t *testing.T) {
	for b := range 256 {
		for _, many := range []int{1, 2, 23, 24} {
			s := strings.Repeat(string([]byte{byte(b)}), many)
			e := api.Event{Seq: 7, At: 7, Kind: api.Trip, Comp: s, A: 2}
			c := api.Ctx{Names: []string{"db", "mail"}}
			wantBytes(t, c, e, append(append([]byte{4, 7, 7, 0, byte(many)}, s...), 2), api.Ctx{Seq: 7, At: 7, Names: []string{"db", "mail", s}})
			c.Names = append(c.Names, s)
			wantBytes(t, c, e, []byte{4, 7, 7, 3, 2}, api.Ctx{Seq: 7, At: 7, Names: c.Names})
		}
	}
}

// P7.1: each place that a name can have, and a new name as long as there is room.
func TestPlaces(t *testing.T) {
	for many := range mostNames + 1 {
		c := api.Ctx{Seq: 3, Names: listOf(many)}
		for k, s := range c.Names {
			e := api.Event{Seq: 4, Kind: api.Trip, Comp: s}
			wantBytes(t, c, e, []byte{4, 1, 0, byte(k + 1), 0}, api.Ctx{Seq: 4, Names: c.Names})
		}
		e := api.Event{Seq: 4, Kind: api.Trip, Comp: fresh}
		if many == mostNames {
			wantRefused(t, c, e, api.ErrMany)
			wantNone(t, c, []byte("\x04\x01\x00\x00\x05fresh\x00"), api.ErrForm)
			continue
		}
		wantBytes(t, c, e, []byte("\x04\x01\x00\x00\x05fresh\x00"), api.Ctx{Seq: 4, Names: append(listOf(many), fresh)})
	}
}

// P7.1: what was ahead isn't right, of whichever event, also of one that may not be told.
func TestEncodeWrongAhead(t *testing.T) {
	for _, c := range wrongAheads() {
		for _, e := range []api.Event{{}, {Seq: 6, At: 6, Kind: api.Trip, Comp: "n0"}, {Seq: mostSeq, At: mostTime, Kind: api.Trip, Comp: fresh}, {Seq: 6, At: 6, Kind: 99}, {Seq: 1, At: 1, Kind: api.Trip, Comp: "n0", A: 9}} {
			wantRefused(t, c, e, api.ErrArg)
		}
	}
}

// P7.1: events that may not be told, by each reason, with what is told behind it as well.
func TestEncodeCheck(t *testing.T) {
	late := api.Ctx{Seq: 10, At: 100, Names: listOf(mostNames)}
	for _, x := range []struct {
		e   api.Event
		err api.Errno
	}{
		{api.Event{Seq: 11, At: 100, Kind: 0, Comp: "n0"}, api.ErrKind},
		{api.Event{Seq: 11, At: 100, Kind: 11, Comp: "n0"}, api.ErrKind},
		{api.Event{Seq: 11, At: 100, Kind: -1, Comp: "n0"}, api.ErrKind},
		{api.Event{Seq: -1, At: -1, Kind: 256 + 4, A: -1}, api.ErrKind},
		{api.Event{Seq: 11, At: 100, Kind: api.Trip}, api.ErrName},
		{api.Event{Seq: 9, At: 99, Kind: api.Trip, Comp: strings.Repeat("n", longest+1), A: 9}, api.ErrName},
		{api.Event{Seq: 11, At: 100, Kind: api.Trip, Comp: "n0", A: 3}, api.ErrValue},
		{api.Event{Seq: 11, At: 100, Kind: api.Trip, Comp: "n0", A: -1}, api.ErrValue},
		{api.Event{Seq: 11, At: 100, Kind: api.Trip, Comp: "n0", B: 1}, api.ErrValue},
		{api.Event{Seq: 11, At: 100, Kind: api.Outcome, Comp: "n0", C: 1}, api.ErrValue},
		{api.Event{Seq: 11, At: 100, Kind: api.Attempt, Comp: "n0"}, api.ErrValue},
		{api.Event{Seq: 11, At: 100, Kind: api.Configure, Comp: "n0", C: mostValue + 1}, api.ErrValue},
		{api.Event{Seq: -1, At: -1, Kind: api.Admit, Comp: fresh, A: -1}, api.ErrValue},
		{api.Event{Seq: 11, At: mostTime + 1, Kind: api.Trip, Comp: "n0"}, api.ErrTime},
		{api.Event{Seq: 11, At: -1, Kind: api.Trip, Comp: "n0"}, api.ErrTime},
		{api.Event{Seq: 10, At: -1, Kind: api.Trip, Comp: fresh}, api.ErrTime},
		{api.Event{Seq: -1, At: mostTime + 1, Kind: api.Trip, Comp: fresh}, api.ErrTime},
		{api.Event{Seq: mostSeq + 1, At: 100, Kind: api.Trip, Comp: "n0"}, api.ErrArg},
		{api.Event{Seq: -1, At: 99, Kind: api.Trip, Comp: fresh}, api.ErrArg},
	} {
		wantRefused(t, late, x.e, x.err)
		wantRefused(t, api.Ctx{Seq: 10, At: 100}, x.e, x.err)
	}
}

// P7.1: a number that isn't above, a time that is below, and no room for a name, one by one and at once, in this order.
func TestEncodeOrder(t *testing.T) {
	full := api.Ctx{Seq: 10, At: 100, Names: listOf(mostNames)}
	for _, seq := range []int64{0, 1, 9, 10, 11, 12, mostSeq} {
		for _, at := range []int64{0, 1, 99, 100, 101, mostTime} {
			for _, s := range []string{"n0", "n16", "n31", fresh, "n32"} {
				e := api.Event{Seq: seq, At: at, Kind: api.Backoff, Comp: s, A: 200}
				switch {
				case seq <= 10:
					wantRefused(t, full, e, api.ErrArg)
				case at < 100:
					wantRefused(t, full, e, api.ErrTime)
				case s == fresh || s == "n32":
					wantRefused(t, full, e, api.ErrMany)
				default:
					wantBytes(t, full, e, spelt(full, e), stands(full, e))
				}
			}
		}
	}
	last := api.Ctx{Seq: mostSeq, At: mostTime}
	wantRefused(t, last, api.Event{Seq: mostSeq, At: mostTime, Kind: api.Trip, Comp: "a"}, api.ErrArg)
	wantRefused(t, last, api.Event{Seq: mostSeq, At: 0, Kind: api.Trip, Comp: "a"}, api.ErrArg)
	wantRefused(t, api.Ctx{At: mostTime}, api.Event{Seq: 1, At: mostTime - 1, Kind: api.Trip, Comp: "a"}, api.ErrTime)
	wantRefused(t, api.Ctx{}, api.Event{Kind: api.Trip, Comp: "a"}, api.ErrArg)
}

// P7.2: what was ahead isn't right, of whichever bytes.
func TestDecodeWrongAhead(t *testing.T) {
	for _, c := range wrongAheads() {
		for _, s := range []string{"", "\x04\x01\x00\x01\x00", "\x04\x01\x00\x00\x05fresh\x00", "\xff", "\x00"} {
			wantNone(t, c, []byte(s), api.ErrArg)
		}
	}
}

// P7.2: bytes of no event, by each reason.
func TestDecodeNone(t *testing.T) {
	c := api.Ctx{Seq: 10, At: 100, Names: []string{"a", "b"}}
	long := strings.Repeat("n", longest+1)
	most := "\xff\xff\xff\xff\xff\xff\xff\xff\xff\x01"
	for _, s := range []string{
		"", "\x04", "\x04\x01", "\x04\x01\x00", "\x04\x01\x00\x01", "\x04\x01\x00\x00", "\x04\x01\x00\x00\x01", "\x04\x01\x00\x00\x01c",
		"\x02\x01\x00\x01\x00\x00", "\x03\x01\x00\x01\x00", "\x04\x01\x00\x01\x00\x00", "\x04\x01\x00\x01\x00\x04", "\x04\x01\x00\x00\x01c\x00\x00",
		"\x84\x00\x01\x00\x01\x00", "\x04\x81\x00\x00\x01\x00", "\x04\x01\x80\x00\x01\x00", "\x04\x01\x00\x81\x00\x00", "\x04\x01\x00\x01\x80\x00", "\x04\x01\x00\x80\x00\x01c\x00", "\x04\x01\x00\x00\x81\x00c\x00",
		"\x00\x01\x00\x01\x00", "\x0b\x01\x00\x01\x00", "\x84\x02\x01\x00\x01\x00", "\x84\x80\x80\x80\x10\x01\x00\x01\x00", most + "\x01\x00\x01\x00", "\x00\x01\x00\x01", most + "\x01\x00\x01",
		"\x04\x00\x00\x01\x00", "\x04" + most + "\x00\x01\x00", "\x04\xf7\xff\xff\xff\x0f\x00\x01\x00", "\x04\xff\xff\xff\xff\xff\xff\xff\xff\x7f\x00\x01\x00",
		"\x04\x01" + most + "\x01\x00", "\x04\x01\x9d\xff\xff\xff\xff\x1f\x01\x00", "\x04\x01\x9c\xff\xff\xff\xff\xff\xff\xff\xff\x01\x01\x00",
		"\x04\x01\x00\x03\x00", "\x04\x01\x00\x03\x01c\x00", "\x04\x01\x00\x81\x02\x00", "\x04\x01\x00" + most + "\x00", "\x04\x01\x00\x81\x80\x80\x80\x10\x00",
		"\x04\x01\x00\x00\x01a\x00", "\x04\x01\x00\x00\x01b\x00", "\x04\x01\x00\x00\x00\x00", "\x04\x01\x00\x00\x19" + long + "\x00", "\x04\x01\x00\x00" + most + "c\x00",
		"\x04\x01\x00\x01\x03", "\x04\x01\x00\x01" + most, "\x01\x01\x00\x01\x00", "\x01\x01\x00\x01\x04", "\x08\x01\x00\x01\x00", "\x0a\x01\x00\x01\x00", "\x05\x01\x00\x01\x80\x80\x80\x80\x08", "\x03\x01\x00\x01\x03\x00", "\x03\x01\x00\x01\x00\x80\x80\x80\x80\x08",
		"\x04\x01\x00\x01\x80\x80\x80\x80\x80\x80\x80\x80\x80\x80\x00", "\x04\x01\x00\x01\x80\x80\x80\x80\x80\x80\x80\x80\x80\x02", "\x04\x01\x00\x01\x80\x80\x80\x80\x80\x80\x80\x80\x80\x01",
		strings.Repeat("\x80", 100), strings.Repeat("\x00", 100), strings.Repeat("\x04", 100), strings.Repeat("\xff", 1000),
	} {
		wantNone(t, c, []byte(s), api.ErrForm)
	}
	wantNone(t, c, nil, api.ErrForm)
	wantNone(t, api.Ctx{}, []byte("\x04\x01\x00\x01\x00"), api.ErrForm)
	wantNone(t, api.Ctx{Seq: mostSeq}, []byte("\x04\x01\x00\x00\x01c\x00"), api.ErrForm)
	wantNone(t, api.Ctx{Seq: mostSeq}, []byte("\x04\x00\x00\x00\x01c\x00"), api.ErrForm)
	wantNone(t, api.Ctx{At: mostTime}, []byte("\x04\x01\x01\x00\x01c\x00"), api.ErrForm)
	wantNone(t, api.Ctx{Names: listOf(32)}, []byte("\x04\x01\x00\x21\x00"), api.ErrForm)
	wantNone(t, api.Ctx{Names: listOf(32)}, []byte("\x04\x01\x00\x00\x02n0\x00"), api.ErrForm)
}

// number read by hand from the front of bytes, with no more sevens than are needed; whether there is one.
func number(b []byte) (uint64, []byte, bool) {
	var n uint64
	for k, x := range b[:min(len(b), 10)] {
		n |= uint64(x&127) << (7 * k)
		if x < 128 {
			return n, b[k+1:], (k == 0 || x > 0) && (k < 9 || x < 2)
		}
	}
	return 0, nil, false
}

// readByHand says which event has these bytes, if there is one.
func readByHand(c api.Ctx, b []byte) (api.Event, bool) {
	var head [4]uint64
	ok := true
	for k := range head {
		if head[k], b, ok = number(b); !ok {
			return api.Event{}, false
		}
	}
	if head[0] < 1 || head[0] > 10 || head[1] < 1 || head[1] > mostSeq-uint64(c.Seq) || head[2] > mostTime-uint64(c.At) || head[3] > uint64(len(c.Names)) {
		return api.Event{}, false
	}
	e := api.Event{Kind: int(head[0]), Seq: c.Seq + int64(head[1]), At: c.At + int64(head[2])}
	if head[3] > 0 {
		e.Comp = c.Names[head[3]-1]
	} else {
		many, rest, ok := number(b)
		if !ok || many < 1 || many > longest || many > uint64(len(rest)) || slices.Contains(c.Names, string(rest[:many])) || len(c.Names) == mostNames {
			return api.Event{}, false
		}
		e.Comp, b = string(rest[:many]), rest[many:]
	}
	var l []int64
	for range []int{0, 1, 3, 2, 1, 1, 1, 1, 1, 1, 1}[e.Kind] {
		var n uint64
		if n, b, ok = number(b); !ok || n > mostValue {
			return api.Event{}, false
		}
		l = append(l, int64(n))
	}
	e = event.Fill(e, l)
	return e, len(b) == 0 && event.Check(e) == api.OK
}

// wantAsByHand holds what is read against what is read by hand; what is read as an event has just these bytes.
func wantAsByHand(t *testing.T, c api.Ctx, b []byte) bool {
	t.Helper()
	e, ok := readByHand(c, b)
	if !ok {
		wantNone(t, c, b, api.ErrForm)
		return false
	}
	wantBytes(t, c, e, b, stands(c, e))
	return true
}

// P7.2, P7.3: events' bytes cut anywhere, with a byte more behind, ahead or between, and with each byte changed.
func TestDecodeChanged(t *testing.T) {
	read := 0
	for _, c := range []api.Ctx{{}, {Seq: 10, At: 100, Names: []string{"a", "b"}}, {Seq: 1, Names: listOf(31)}, {Seq: mostSeq - 300, At: mostTime - 300, Names: listOf(32)}} {
		for at, e := range following(c) {
			if at%7 > 0 {
				continue
			}
			b := spelt(c, e)
			for k := range b {
				if wantAsByHand(t, c, b[:k]) {
					t.Errorf("%v cut at %d is an event", b, k)
				}
			}
			for _, x := range []byte{0, 1, 2, 4, 127, 128, 255} {
				if wantAsByHand(t, c, append(slices.Clone(b), x)) {
					t.Errorf("%v and %d is an event", b, x)
				}
			}
			for k := range b {
				for _, x := range []byte{0, 1, 2, b[k] - 1, b[k] + 1, b[k] ^ 128, b[k] ^ 1, b[k] ^ 8, 127, 128, 255} {
					other := slices.Clone(b)
					other[k] = x
					if wantAsByHand(t, c, other) {
						read++
					}
					wantAsByHand(t, c, slices.Insert(slices.Clone(b), k, x))
				}
			}
		}
	}
	if read < 2000 {
		t.Errorf("only %d changed rows were read", read)
	}
}

// P7.2, P7.3: an event's bytes with each byte changed to each other one.
func TestDecodeEachByte(t *testing.T) {
	c := api.Ctx{Seq: 10, At: 100, Names: []string{"a", "b"}}
	for _, s := range []string{"\x03\x01\xc8\x01\x02\x01\x82\x01", "\x04\x01\x00\x00\x02db\x01", "\x02\x01\x00\x01\x00\x80\x01\x7f", "\x01\x01\x00\x00\x01c\x02"} {
		for k := range len(s) {
			for x := range 256 {
				b := []byte(s)
				b[k] = byte(x)
				wantAsByHand(t, c, b)
			}
		}
	}
}

// P7.2, P7.3: all short rows of a few bytes.
func TestDecodeShortRows(t *testing.T) {
	few := []byte{0, 1, 2, 4, 97, 129}
	for _, c := range []api.Ctx{{}, {Seq: 2, At: 2, Names: []string{"a"}}} {
		read := 0
		rows := [][]byte{{}}
		for range 7 {
			var next [][]byte
			for _, b := range rows {
				for _, x := range few {
					next = append(next, append(slices.Clone(b), x))
				}
			}
			for _, b := range next {
				if wantAsByHand(t, c, b) {
					read++
				}
			}
			rows = next
		}
		if read < 40 {
			t.Errorf("only %d rows were read", read)
		}
	}
}

// P7.3: many events one behind the other are read as they were, each behind what stands behind the one before it.
func TestRow(t *testing.T) {
	var c, d api.Ctx
	kinds := kindsOf()
	for k := range 500 {
		e := kinds[k*7%len(kinds)]
		e.Seq, e.At, e.Comp = c.Seq+1+int64(k%3), c.At+int64(k%5*k), "n"+strconv.Itoa(k*k%mostNames)
		b, behind, err := Encode(c, e)
		f, after, wrong := Decode(d, b)
		if err != api.OK || wrong != api.OK || f != e || !same(behind, after) || !Right(behind) {
			t.Fatalf("%v behind %v: %d, %d, %v", e, c, err, wrong, f)
		}
		c, d = behind, after
	}
	if len(c.Names) < 5 {
		t.Errorf("only %d names", len(c.Names))
	}
}

// P7.1, P7.2: what was handed in stays as it was, its spare room too, and what came shares nothing with it.
func TestNothingIsShared(t *testing.T) {
	ahead := append(aheads(), wrongAheads()...)
	for _, from := range ahead {
		for _, e := range []api.Event{{Seq: from.Seq + 1, At: from.At, Kind: api.Trip, Comp: "n0"}, {Seq: from.Seq + 1, At: from.At, Kind: api.Trip, Comp: fresh}, {Seq: from.Seq, Kind: api.Trip, Comp: "n0"}, {}} {
			c, all := roomy(from)
			kept := slices.Clone(all)
			b, d, _ := Encode(c, e)
			spoil(b, d)
			in := append([]byte("\x04\x01\x00\x01\x00"), "\x00spare"...)
			for _, many := range []int{5, 6, 0} {
				_, d, _ = Decode(c, in[:many])
				spoil(nil, d)
			}
			spelt := []byte("\x04\x01\x00\x00\x05fresh\x00")
			f, d, _ := Decode(c, spelt)
			spoil(spelt, d)
			if f.Comp != "" && f.Comp != "fresh" {
				t.Errorf("the name became %q", f.Comp)
			}
			if !slices.Equal(all, kept) || string(in) != "\x04\x01\x00\x01\x00\x00spare" {
				t.Fatalf("%v became %v", kept, all)
			}
		}
	}
}

// spoil what came, the spare room of its names too.
func spoil(b []byte, d api.Ctx) {
	for k := range b {
		b[k] = 'x'
	}
	names := d.Names[:cap(d.Names)]
	for k := range names {
		names[k] = "spoilt"
	}
}

// P7.1, P7.2: the bytes and the names that are handed in are not changed by reading, and each call answers the same again.
func TestAgain(t *testing.T) {
	c := api.Ctx{Seq: 10, At: 100, Names: listOf(31)}
	for _, e := range following(c) {
		b, d, err := Encode(c, e)
		again, behind, wrong := Encode(c, e)
		kept := slices.Clone(b)
		f, _, _ := Decode(c, b)
		if !bytes.Equal(b, again) || !reflect.DeepEqual(d, behind) || err != wrong || f != e || !bytes.Equal(b, kept) {
			t.Fatalf("%v: %v and %v", e, b, again)
		}
	}
}

// P7.3: no two events that may follow have the same bytes.
func TestNoTwoAlike(t *testing.T) {
	c := api.Ctx{Seq: 10, At: 100, Names: []string{"a", "b"}}
	seen := map[string]api.Event{}
	for _, e := range following(c) {
		b, _, _ := Encode(c, e)
		if other, ok := seen[string(b)]; ok && other != e {
			t.Errorf("%v and %v are %v", e, other, b)
		}
		seen[string(b)] = e
	}
}
