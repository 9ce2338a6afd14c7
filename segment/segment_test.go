package segment

import (
	"bytes"
	"encoding/binary"
	"fmt"
	"hash/crc32"
	"math"
	"slices"
	"strings"
	"testing"

	"fusebox/api"
	"fusebox/codec"
)

// The limits and the numbers as the document says them, so that a wrong constant shows as well.
const (
	mostNum   = 99999999
	mostSeq   = 1 << 32
	mostTime  = 1 << 40
	mostValue = 1<<31 - 1
	mostNames = 32
	longest   = 24
	whole     = 0
	end       = 1
	torn      = 2
	broken    = 3
	sealed    = 4
)

// nums may be: at both ends and between.
var nums = []int64{1, 2, 7, 9, 10, 99, 127, 128, 300, 16384, 1234567, 12345678, 99999998, mostNum}

// wrongNums may not be, some of which 32 bits, or eight digits, would hold as one that may.
var wrongNums = []int64{0, -1, -2, -7, -mostNum, -100000000, 100000000, 100000001, 100000007, 200000001, 999999999, 1 << 32, 1<<32 + 1, 1<<32 + 7, 10000000001, 1 << 40, math.MaxInt64, math.MaxInt64 - 1, math.MinInt64, math.MinInt64 + 1, math.MinInt64 + 7}

// row is what a segment has.
type row struct {
	num    int64
	before api.Ctx
	l      []api.Event
}

// part is a frame.
type part struct {
	kind    int
	payload []byte
}

// framed by hand, with the sum as another library has it.
func framed(x part) []byte {
	b := append([]byte{byte(len(x.payload) >> 8), byte(len(x.payload)), byte(x.kind)}, x.payload...)
	return binary.LittleEndian.AppendUint32(b, crc32.ChecksumIEEE(b))
}

// joined frames, one behind the other.
func joined(l ...part) []byte {
	var b []byte
	for _, x := range l {
		b = append(b, framed(x)...)
	}
	return b
}

// spelt numbers behind a text, as another library has them.
func spelt(text string, l ...uint64) []byte {
	b := []byte(text)
	for _, n := range l {
		b = binary.AppendUvarint(b, n)
	}
	return b
}

// head of a segment, by hand.
func head(num, seq, at uint64) part {
	return part{1, spelt("fbx1", num, seq, at)}
}

// seal of a segment, by hand.
func seal(many, seq, at uint64) part {
	return part{3, spelt("", many, seq, at)}
}

// record of an event that may follow, and what stands behind it.
func record(c api.Ctx, e api.Event) (part, api.Ctx) {
	payload, behind, err := codec.Encode(c, e)
	if err != api.OK {
		panic(fmt.Sprintf("%v behind %v: error %d", e, c, err))
	}
	return part{2, payload}, behind
}

// parts of a segment, and what stands behind each of them but the Seal.
func parts(x row, closed bool) ([]part, []api.Ctx) {
	behind := x.before
	l, stands := []part{head(uint64(x.num), uint64(behind.Seq), uint64(behind.At))}, []api.Ctx{behind}
	for _, e := range x.l {
		var p part
		p, behind = record(behind, e)
		l, stands = append(l, p), append(stands, behind)
	}
	if closed {
		l = append(l, seal(uint64(len(x.l)), uint64(behind.Seq), uint64(behind.At)))
	}
	return l, stands
}

// listOf so many names, no two alike.
func listOf(many int) []string {
	var l []string
	for k := range many {
		l = append(l, fmt.Sprint("n", k))
	}
	return l
}

// aheads are right, and have no names.
func aheads() []api.Ctx {
	var l []api.Ctx
	for _, seq := range []int64{0, 1, 127, 128, 300, 1 << 31, mostSeq - 1, mostSeq} {
		for _, at := range []int64{0, 1, 5, 127, 128, 1 << 39, mostTime - 1, mostTime} {
			l = append(l, api.Ctx{Seq: seq, At: at}, api.Ctx{Seq: seq, At: at, Names: []string{}})
		}
	}
	return l
}

// withNames is what was ahead, right but for a Head.
func withNames() []api.Ctx {
	var l []api.Ctx
	for _, x := range [][]string{{"a"}, {"a", "b"}, {strings.Repeat("n", longest)}, {"\x00"}, listOf(mostNames)} {
		l = append(l, api.Ctx{Names: x}, api.Ctx{Seq: 300, At: 5, Names: x}, api.Ctx{Seq: mostSeq, At: mostTime, Names: x})
	}
	return l
}

// wrongAheads are not right, by each reason and by several.
func wrongAheads() []api.Ctx {
	var l []api.Ctx
	for _, n := range []int64{math.MinInt64, math.MinInt64 + 1, -mostSeq, -2, -1, mostSeq + 1, mostSeq + 2, 1<<33 + 1, math.MaxInt64} {
		l = append(l, api.Ctx{Seq: n}, api.Ctx{Seq: n, At: 5, Names: []string{"a"}})
	}
	for _, n := range []int64{math.MinInt64, math.MinInt64 + 1, -mostTime, -2, -1, mostTime + 1, mostTime + 2, 1<<41 + 1, math.MaxInt64} {
		l = append(l, api.Ctx{At: n}, api.Ctx{Seq: 5, At: n, Names: []string{"a"}})
	}
	for _, x := range [][]string{{""}, {"a", ""}, {"a", "a"}, {strings.Repeat("n", longest+1)}, listOf(mostNames + 1), listOf(1000)} {
		l = append(l, api.Ctx{Names: x}, api.Ctx{Seq: 5, At: 5, Names: x})
	}
	return append(l, api.Ctx{Seq: -1, At: -1, Names: []string{""}}, api.Ctx{Seq: mostSeq + 1, At: mostTime + 1, Names: listOf(33)})
}

// kindsOf events with their numbers at the least, at the greatest and between.
func kindsOf() []api.Event {
	var l []api.Event
	for _, v := range []int64{0, 1, 2, 127, 128, 300, 16384, 1 << 28, mostValue} {
		l = append(l, api.Event{Kind: api.Configure, A: v, B: 1, C: 200}, api.Event{Kind: api.Configure, A: 3, B: mostValue, C: v})
		l = append(l, api.Event{Kind: api.Outcome, A: v % 3, B: v}, api.Event{Kind: api.Backoff, A: v})
		l = append(l, api.Event{Kind: api.Admit, A: v}, api.Event{Kind: api.Reject, A: v}, api.Event{Kind: api.Refill, A: v})
		l = append(l, api.Event{Kind: api.Attempt, A: max(v, 1)}, api.Event{Kind: api.GiveUp, A: max(v, 1)})
	}
	for n := range int64(3) {
		l = append(l, api.Event{Kind: api.Register, A: n + 1}, api.Event{Kind: api.Trip, A: n})
	}
	return l
}

// run of events behind what was ahead: of all kinds, by names of a list that come in turn, with steps of number and time.
func run(before api.Ctx, many int, names []string, up, late int64) []api.Event {
	kinds := kindsOf()
	var l []api.Event
	for k := range many {
		e := kinds[k%len(kinds)]
		e.Seq, e.At, e.Comp = before.Seq+int64(k+1)*up, before.At+int64(k)*late, names[k*k%len(names)]
		l = append(l, e)
	}
	return l
}

// few rows: of no events, of one, and of several.
func few() []row {
	c := api.Ctx{Seq: 300, At: 70}
	return []row{
		{12, api.Ctx{Seq: 300, At: 5}, []api.Event{{Seq: 301, At: 5, Kind: api.Register, Comp: "db", A: 1}, {Seq: 302, At: 8, Kind: api.Outcome, Comp: "db", A: 1, B: 7}}},
		{1, api.Ctx{Seq: 9}, []api.Event{{Seq: 10, Kind: api.Trip, Comp: "fbx1"}, {Seq: 12, Kind: api.Trip, Comp: "\x00"}, {Seq: 13, At: 4, Kind: api.GiveUp, Comp: "fbx1", A: 128}}},
		{7, api.Ctx{Seq: mostSeq - 1, At: mostTime}, []api.Event{{Seq: mostSeq, At: mostTime, Kind: api.Trip, Comp: "a"}}},
		{mostNum, api.Ctx{}, []api.Event{{Seq: mostSeq, At: mostTime, Kind: api.Configure, Comp: strings.Repeat("\xff", longest), A: mostValue, B: mostValue, C: mostValue}}},
		{1, api.Ctx{}, nil}, {mostNum, api.Ctx{Seq: mostSeq, At: mostTime}, nil}, {128, c, run(c, 4, []string{"b", "c"}, 127, 128)},
	}
}

// rows of no events, of one, of many, of all kinds, of names that are new and known, with numbers and times at their edges.
func rows() []row {
	l := few()
	for k, c := range aheads() {
		l = append(l, row{nums[k%len(nums)], c, nil})
	}
	c := api.Ctx{Seq: 300, At: 70}
	l = append(l, row{12345678, c, run(c, 90, listOf(mostNames), 1, 1)}, row{2, api.Ctx{}, run(api.Ctx{}, 40, listOf(5), 1<<26, 1<<34)})
	each := row{3, c, nil}
	for k, s := range append(listOf(mostNames), listOf(mostNames)...) {
		each.l = append(each.l, api.Event{Seq: 301 + int64(k), At: 70, Kind: api.Trip, Comp: s, A: 2})
	}
	return append(l, each)
}

// sameAhead: are both the same? A list is nil or empty alike.
func sameAhead(c, d api.Ctx) bool {
	return c.Seq == d.Seq && c.At == d.At && slices.Equal(c.Names, d.Names)
}

// wantBytes asks for just these bytes, and no error.
func wantBytes(t *testing.T, what any, b []byte, err api.Errno, want []byte) {
	t.Helper()
	if err != api.OK || !bytes.Equal(b, want) {
		t.Errorf("%v: %q and error %d, want %q", what, b, err, want)
	}
}

// wantNone asks for no bytes, and the error.
func wantNone(t *testing.T, what any, b []byte, err, want api.Errno) {
	t.Helper()
	if err != want || len(b) != 0 {
		t.Errorf("%v: %q and error %d, want %d", what, b, err, want)
	}
}

// P9.1: a name has its number in eight digits.
func TestName(t *testing.T) {
	for num, want := range map[int64]string{1: "seg.00000001", 7: "seg.00000007", 10: "seg.00000010", 12345678: "seg.12345678", 90000000: "seg.90000000", 9999999: "seg.09999999", 10000000: "seg.10000000", mostNum: "seg.99999999"} {
		if s := Name(num); s != want {
			t.Errorf("%d: %q, want %q", num, s, want)
		}
	}
	for k := int64(1); k <= mostNum; k += 1 + k/50 {
		if s := Name(k); s != fmt.Sprintf("seg.%08d", k) {
			t.Errorf("%d: %q", k, s)
		}
	}
	for _, num := range wrongNums {
		if s := Name(num); s != "" {
			t.Errorf("%d: %q", num, s)
		}
	}
}

// P9.1: names rise as their numbers do.
func TestNamesRise(t *testing.T) {
	for k := 1; k < len(nums); k++ {
		if Name(nums[k-1]) >= Name(nums[k]) {
			t.Errorf("%q and %q", Name(nums[k-1]), Name(nums[k]))
		}
	}
}

// P9.1, P9.3: bytes that are known, byte by byte.
func TestBytesKnown(t *testing.T) {
	const (
		first  = "\x00\x08\x01\x66\x62\x78\x31\x0c\xac\x02\x05\x80\x82\x5e\xc6"
		second = "\x00\x08\x02\x01\x01\x00\x00\x02\x64\x62\x01\x70\x40\x60\xf9"
		third  = "\x00\x06\x02\x03\x01\x03\x01\x01\x07\x25\x36\x05\x98"
		last   = "\x00\x04\x03\x02\xae\x02\x08\xe9\xb5\x5f\x04"
	)
	x := few()[0]
	b, err := Head(12, x.before)
	wantBytes(t, "a Head", b, err, []byte(first))
	b, c, err := Add(x.before, x.l[0])
	wantBytes(t, "an event", b, err, []byte(second))
	b, c, err = Add(c, x.l[1])
	wantBytes(t, "another", b, err, []byte(third))
	b, err = Seal(2, c)
	wantBytes(t, "a Seal", b, err, []byte(last))
	b, err = Make(12, x.before, x.l, false)
	wantBytes(t, "all", b, err, []byte(first+second+third))
	b, err = Make(12, x.before, x.l, true)
	wantBytes(t, "all, sealed", b, err, []byte(first+second+third+last))
	b, err = Make(1, api.Ctx{}, nil, true)
	wantBytes(t, "no events, sealed", b, err, []byte("\x00\x07\x01\x66\x62\x78\x31\x01\x00\x00\x52\x8c\xec\x66\x00\x03\x03\x00\x00\x00\x9d\x74\xd7\xe4"))
	b, err = Make(mostNum, api.Ctx{Seq: mostSeq, At: mostTime}, nil, false)
	wantBytes(t, "the greatest", b, err, []byte("\x00\x13\x01\x66\x62\x78\x31\xff\xc1\xd7\x2f\x80\x80\x80\x80\x10\x80\x80\x80\x80\x80\x20\x25\xa9\x0c\xa9"))
}

// P9.1: Heads of each number, behind each thing that may be ahead.
func TestHead(t *testing.T) {
	for _, num := range nums {
		for _, c := range aheads() {
			b, err := Head(num, c)
			wantBytes(t, num, b, err, framed(head(uint64(num), uint64(c.Seq), uint64(c.At))))
		}
	}
}

// P9.1, P9.3: no Head, and no segment, of a number that may not be, or of what was ahead that isn't right or has names; also where the events may not follow.
func TestWrongHead(t *testing.T) {
	wrong := append(withNames(), wrongAheads()...)
	for _, num := range nums {
		for _, c := range wrong {
			wantNoHead(t, num, c)
		}
	}
	for _, num := range wrongNums {
		for _, c := range append(wrong, aheads()...) {
			wantNoHead(t, num, c)
		}
	}
}

func wantNoHead(t *testing.T, num int64, c api.Ctx) {
	t.Helper()
	what := []any{num, c}
	b, err := Head(num, c)
	wantNone(t, what, b, err, api.ErrArg)
	for _, l := range [][]api.Event{nil, {{Seq: 301, At: 5, Kind: api.Trip, Comp: "a"}}, {{Kind: 99}}, {{Seq: 301, At: 5, Kind: api.Trip}}, {{Seq: 301, At: 1, Kind: api.Trip, Comp: "a"}}} {
		b, err = Make(num, c, l, false)
		wantNone(t, what, b, err, api.ErrArg)
		b, err = Make(num, c, l, true)
		wantNone(t, what, b, err, api.ErrArg)
	}
}

// P9.1: each event that may follow, with names that are known and new.
func TestAdd(t *testing.T) {
	for _, names := range [][]string{nil, {"a"}, {"b", "a"}, listOf(31), append(listOf(31), "a")} {
		for _, x := range [][2]int64{{0, 0}, {10, 100}, {mostSeq - 1, mostTime}, {mostSeq - 200, mostTime - 200}} {
			for _, e := range kindsOf() {
				for _, step := range [][2]int64{{1, 0}, {1, 1}, {127, 127}, {128, 128}} {
					c := api.Ctx{Seq: x[0], At: x[1], Names: names}
					e.Comp, e.Seq, e.At = "a", min(c.Seq+step[0], mostSeq), min(c.At+step[1], mostTime)
					want, stands := record(c, e)
					b, behind, err := Add(c, e)
					wantBytes(t, e, b, err, framed(want))
					if !sameAhead(behind, stands) || behind.Seq != e.Seq || behind.At != e.At || !slices.Contains(behind.Names, "a") {
						t.Errorf("%v behind %v: %v", e, c, behind)
					}
				}
			}
		}
	}
}

// refused is an event that may not follow, by an error.
type refused struct {
	c   api.Ctx
	e   api.Event
	err api.Errno
}

// refusals by each error that codec.Encode tells, beside what would be told behind it.
func refusals() []refused {
	c := api.Ctx{Seq: 100, At: 100, Names: []string{"a"}}
	full := api.Ctx{Seq: 100, At: 100, Names: listOf(mostNames)}
	late := api.Ctx{Seq: mostSeq, At: mostTime}
	l := []refused{
		{c, api.Event{}, api.ErrKind}, {c, api.Event{Seq: 101, At: 100, Kind: 11, Comp: "a"}, api.ErrKind}, {c, api.Event{Seq: -1, At: -1, Kind: -1, A: -1}, api.ErrKind}, {c, api.Event{Seq: 101, At: 100, Kind: 256 + 4, Comp: "a"}, api.ErrKind},
		{c, api.Event{Seq: 101, At: 100, Kind: api.Trip}, api.ErrName}, {c, api.Event{Seq: 101, At: 100, Kind: api.Trip, Comp: strings.Repeat("n", 25)}, api.ErrName}, {full, api.Event{Kind: api.Trip, A: 9}, api.ErrName},
		{c, api.Event{Seq: 101, At: 100, Kind: api.Trip, Comp: "a", A: 3}, api.ErrValue}, {c, api.Event{Seq: 101, At: 100, Kind: api.Admit, Comp: "a", A: -1}, api.ErrValue}, {c, api.Event{Seq: 101, At: 100, Kind: api.Admit, Comp: "a", A: mostValue + 1}, api.ErrValue}, {c, api.Event{Seq: 1, At: -1, Kind: api.Trip, Comp: "b", C: 1}, api.ErrValue},
		{c, api.Event{Seq: 101, At: -1, Kind: api.Trip, Comp: "a"}, api.ErrTime}, {c, api.Event{Seq: -1, At: mostTime + 1, Kind: api.Trip, Comp: "a"}, api.ErrTime}, {c, api.Event{Seq: 101, At: 99, Kind: api.Trip, Comp: "a"}, api.ErrTime}, {full, api.Event{Seq: 101, At: 99, Kind: api.Trip, Comp: "a"}, api.ErrTime}, {late, api.Event{Seq: mostSeq, At: -1, Kind: api.Trip, Comp: "a"}, api.ErrTime},
		{c, api.Event{Seq: -1, At: 100, Kind: api.Trip, Comp: "a"}, api.ErrArg}, {c, api.Event{Seq: mostSeq + 1, At: 100, Kind: api.Trip, Comp: "a"}, api.ErrArg}, {c, api.Event{Seq: 100, At: 99, Kind: api.Trip, Comp: "a"}, api.ErrArg}, {full, api.Event{Seq: 99, At: 100, Kind: api.Trip, Comp: "a"}, api.ErrArg}, {late, api.Event{Seq: mostSeq, At: mostTime, Kind: api.Trip, Comp: "a"}, api.ErrArg}, {api.Ctx{}, api.Event{Kind: api.Trip, Comp: "a"}, api.ErrArg},
		{full, api.Event{Seq: 101, At: 100, Kind: api.Trip, Comp: "a"}, api.ErrMany}, {full, api.Event{Seq: 102, At: 101, Kind: api.Outcome, Comp: "n32"}, api.ErrMany},
	}
	for _, c := range wrongAheads() {
		l = append(l, refused{c, api.Event{Seq: 6, At: 6, Kind: api.Trip, Comp: "a"}, api.ErrArg}, refused{c, api.Event{Seq: mostSeq, At: mostTime, Kind: api.Trip, Comp: "a"}, api.ErrArg}, refused{c, api.Event{Kind: 99}, api.ErrArg}, refused{c, api.Event{}, api.ErrArg})
	}
	return l
}

// P9.1: events that may not follow: codec.Encode's error, no bytes, and what was ahead as it is.
func TestAddRefuses(t *testing.T) {
	for _, x := range refusals() {
		b, c, err := Add(x.c, x.e)
		wantNone(t, x, b, err, x.err)
		if !sameAhead(c, x.c) {
			t.Errorf("%v became %v", x.c, c)
		}
		if _, _, told := codec.Encode(x.c, x.e); told != x.err {
			t.Errorf("%v: codec tells %d", x, told)
		}
	}
}

// P9.1: Seals of no event, of one, and of many, behind each thing that is right, with names and without.
func TestSeal(t *testing.T) {
	for _, many := range []int{0, 1, 2, 127, 128, 300, 1 << 31, 1<<32 + 1, math.MaxInt - 1, math.MaxInt} {
		for _, c := range append(aheads(), withNames()...) {
			b, err := Seal(many, c)
			wantBytes(t, []any{many, c}, b, err, framed(seal(uint64(many), uint64(c.Seq), uint64(c.At))))
		}
	}
}

// P9.1: no Seal of less than no event, or of what is behind that isn't right.
func TestWrongSeal(t *testing.T) {
	for _, many := range []int{-1, -2, -128, math.MinInt32, math.MinInt + 1, math.MinInt} {
		for _, c := range slices.Concat(aheads(), withNames(), wrongAheads()) {
			b, err := Seal(many, c)
			wantNone(t, []any{many, c}, b, err, api.ErrArg)
		}
	}
	for _, many := range []int{0, 1, 128, math.MaxInt} {
		for _, c := range wrongAheads() {
			b, err := Seal(many, c)
			wantNone(t, []any{many, c}, b, err, api.ErrArg)
		}
	}
}

// P9.3: all segments have their parts' bytes, sealed or not.
func TestMake(t *testing.T) {
	for _, x := range rows() {
		for _, closed := range []bool{false, true} {
			l, _ := parts(x, closed)
			b, err := Make(x.num, x.before, x.l, closed)
			wantBytes(t, x, b, err, joined(l...))
		}
	}
}

// P9.3: the error of an event that may not follow, behind none, one, and 32 that may, and no bytes, whatever comes behind it.
func TestMakeRefuses(t *testing.T) {
	for _, x := range refusals() {
		if !codec.Right(x.c) {
			continue
		}
		before, l := leading(x.c)
		for _, behind := range [][]api.Event{nil, {{Kind: 99}}, {{Seq: 1, At: 1, Kind: api.Trip}}, {{Seq: 200, At: 200, Kind: api.Trip, Comp: "n0"}}, {{Seq: 200, At: 200, Kind: api.Trip, Comp: "n0", A: 9}, {Kind: 99}}} {
			for _, closed := range []bool{false, true} {
				b, err := Make(7, before, slices.Concat(l, []api.Event{x.e}, behind), closed)
				wantNone(t, x, b, err, x.err)
			}
		}
		for _, closed := range []bool{false, true} {
			if b, err := Make(7, before, l, closed); err != api.OK || len(b) == 0 {
				t.Errorf("ahead of %v: error %d", x, err)
			}
		}
	}
}

// leading events, an event a name, and what was ahead of these.
func leading(behind api.Ctx) (api.Ctx, []api.Event) {
	before := api.Ctx{Seq: behind.Seq - int64(len(behind.Names)), At: behind.At}
	var l []api.Event
	for k, s := range behind.Names {
		l = append(l, api.Event{Seq: before.Seq + int64(k+1), At: behind.At, Kind: api.Trip, Comp: s})
	}
	return before, l
}

// P9.3: of two events that may not follow, and of a Head that may not be, the first error alone.
func TestMakeFirstError(t *testing.T) {
	fine, back := api.Event{Seq: 5, At: 9, Kind: api.Trip, Comp: "a"}, api.Event{Seq: 6, At: 8, Kind: api.Trip, Comp: "a"}
	none := api.Event{Seq: 7, At: 9, Kind: api.Trip}
	for _, x := range []struct {
		l   []api.Event
		err api.Errno
	}{
		{[]api.Event{fine, back, none}, api.ErrTime}, {[]api.Event{fine, none, back}, api.ErrName}, {[]api.Event{back, fine, none}, api.ErrArg},
		{[]api.Event{fine, fine, back}, api.ErrArg}, {[]api.Event{none, {}}, api.ErrName}, {[]api.Event{{}, none}, api.ErrKind},
	} {
		b, err := Make(1, api.Ctx{}, x.l, true)
		wantNone(t, x.l, b, err, x.err)
		b, err = Make(1, api.Ctx{}, x.l, false)
		wantNone(t, x.l, b, err, x.err)
		for _, num := range []int64{0, 100000000} {
			b, err = Make(num, api.Ctx{}, x.l, true)
			wantNone(t, x.l, b, err, api.ErrArg)
		}
		b, err = Make(1, api.Ctx{Seq: mostSeq + 1}, x.l, true)
		wantNone(t, x.l, b, err, api.ErrArg)
	}
}

// P9.3: a segment takes 32 names and no more.
func TestMakeNames(t *testing.T) {
	var l []api.Event
	for k, s := range listOf(mostNames + 1) {
		l = append(l, api.Event{Seq: int64(k + 1), Kind: api.Trip, Comp: s})
	}
	if b, err := Make(1, api.Ctx{}, l[:mostNames], true); err != api.OK || len(b) == 0 {
		t.Errorf("32 names: error %d", err)
	}
	b, err := Make(1, api.Ctx{}, l, true)
	wantNone(t, "33 names", b, err, api.ErrMany)
}

// P9.1, P9.3: what was handed in stays as it was, its spare room too, and what came shares nothing with it.
func TestNothingIsShared(t *testing.T) {
	for _, x := range rows() {
		for _, names := range [][]string{nil, {"a", "db"}, listOf(mostNames)} {
			all := append(slices.Clone(names), "spare", "", "spare")
			c := api.Ctx{Seq: x.before.Seq, At: x.before.At, Names: all[:len(names)]}
			events := append(slices.Clone(x.l), api.Event{Seq: 1, Comp: "spare"}, api.Event{Kind: 4})
			wasNames, wasEvents := slices.Clone(all), slices.Clone(events)
			b, _ := Head(x.num, c)
			spoil(b, api.Ctx{})
			b, d, _ := Add(c, api.Event{Seq: c.Seq + 1, At: c.At, Kind: api.Trip, Comp: "db"})
			spoil(b, d)
			_, d, _ = Add(c, api.Event{})
			spoil(nil, d)
			b, _ = Seal(3, c)
			spoil(b, api.Ctx{})
			for _, closed := range []bool{false, true} {
				b, _ = Make(x.num, c, events[:len(x.l)], closed)
				spoil(b, api.Ctx{})
				b, _ = Make(x.num, c, events, closed)
				spoil(b, api.Ctx{})
			}
			if !slices.Equal(all, wasNames) || !slices.Equal(events, wasEvents) {
				t.Fatalf("%v and %v became %v and %v", wasNames, wasEvents, all, events)
			}
		}
	}
}

// spoil what came, its spare room too.
func spoil(b []byte, c api.Ctx) {
	b = b[:cap(b)]
	for k := range b {
		b[k] = 'x'
	}
	names := c.Names[:cap(c.Names)]
	for k := range names {
		names[k] = "spoilt"
	}
}
