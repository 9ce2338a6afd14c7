package segment

import (
	"bytes"
	"encoding/binary"
	"math"
	"slices"
	"testing"

	"fusebox/api"
	"fusebox/codec"
)

// headings may be none, though they are framed: by their four bytes, by a number, or by bytes that are too few, or too many.
func headings() [][]byte {
	l := [][]byte{nil, {}, []byte("fbx1"), []byte("fbx"), spelt("fbx1", 12), spelt("fbx1", 12, 300), spelt("fbx1", 12, 300, 5, 0), spelt("fbx1", 12, 300, 5, 0, 0), spelt("", 12, 300, 5), spelt("\x04fbx1", 12, 300, 5), append(spelt("fbx1", 12, 300, 5), make([]byte, 100)...)}
	for k := range 4 {
		for x := 1; x < 256; x++ {
			b := spelt("fbx1", 12, 300, 5)
			b[k] += byte(x)
			l = append(l, b)
		}
	}
	for _, n := range []uint64{0, 100000000, 100000001, 100000012, 200000012, 1 << 32, 1<<32 + 12, 1 << 40, 1<<63 - 1, 1 << 63, 1<<63 + 12, 1<<64 - 1, 1<<64 - 12} {
		l = append(l, spelt("fbx1", n, 300, 5), spelt("fbx1", n, 0, 0))
	}
	for _, n := range []uint64{mostSeq + 1, mostSeq + 2, 1<<33 + 300, 1<<63 - 1, 1 << 63, 1<<63 + 300, 1<<64 - 1, 1<<64 - 300} {
		l = append(l, spelt("fbx1", 12, n, 5), spelt("fbx1", 1, n, 0))
	}
	for _, n := range []uint64{mostTime + 1, mostTime + 2, 1<<41 + 5, 1<<63 - 1, 1 << 63, 1<<63 + 5, 1<<64 - 1, 1<<64 - 5} {
		l = append(l, spelt("fbx1", 12, 300, n), spelt("fbx1", 1, 0, n))
	}
	for _, s := range []string{"\x8c\x00\xac\x02\x05", "\x0c\xac\x82\x00\x05", "\x0c\xac\x02\x85\x00", "\x0c\xac\x02\x85\x80\x80\x00", "\x0c\x80\x00\x00", "\x0c\x00\x80", "\x8c\x80\x80\x80\x80\x80\x80\x80\x80\x00\xac\x02\x05", "\x8c\x80\x80\x80\x80\x80\x80\x80\x80\x02\xac\x02\x05", "\x0c\xac\x02\x85\x80\x80\x80\x80\x80\x80\x80\x80\x80\x00", "\x0c\xac\x02\x05\x80", "\x0c\xac\x02\xff"} {
		l = append(l, []byte("fbx1"+s))
	}
	return l
}

// number by hand: the one with which bytes begin, and those behind it. One of more bytes than it needs is none.
func number(b []byte) (uint64, []byte, bool) {
	n, many := binary.Uvarint(b)
	if many <= 0 || many != len(binary.AppendUvarint(nil, n)) {
		return 0, nil, false
	}
	return n, b[many:], true
}

// three numbers by hand, and no byte behind them.
func three(b []byte) ([3]uint64, bool) {
	var l [3]uint64
	ok := true
	for k := range l {
		if l[k], b, ok = number(b); !ok {
			return l, false
		}
	}
	return l, len(b) == 0
}

// standing by hand: what bytes begin with, and the frame.
func standing(b []byte) (int, part) {
	if len(b) == 0 {
		return end, part{}
	}
	if len(b) < 7 {
		return torn, part{}
	}
	long := int(b[0])*256 + int(b[1])
	if long <= 200 && len(b) < long+7 {
		return torn, part{}
	}
	if long > 200 || b[2] < 1 || b[2] > 3 {
		return broken, part{}
	}
	x := part{int(b[2]), b[3 : 3+long]}
	if !bytes.HasPrefix(b, framed(x)) {
		return broken, part{}
	}
	return whole, x
}

// scanned by hand: what the chapter says is read of bytes.
func scanned(b []byte) api.Scan {
	var s api.Scan
	for {
		status, x := standing(b[s.Size:])
		switch {
		case status != whole:
			s.Status = status
			return s
		case !taken(&s, x):
			s.Status = broken
			return s
		}
		s.Size += 7 + len(x.payload)
		if x.kind == 3 {
			s.Status = broken
			if s.Size == len(b) {
				s.Status = sealed
			}
			return s
		}
	}
}

// taken by hand: may the frame come next?
func taken(s *api.Scan, x part) bool {
	if (s.Num == 0) != (x.kind == 1) {
		return false
	}
	switch x.kind {
	case 1:
		l, ok := three(bytes.TrimPrefix(x.payload, []byte("fbx1")))
		if !ok || !bytes.HasPrefix(x.payload, []byte("fbx1")) || l[0] < 1 || l[0] > mostNum || l[1] > mostSeq || l[2] > mostTime {
			return false
		}
		s.Num, s.Before = int64(l[0]), api.Ctx{Seq: int64(l[1]), At: int64(l[2])}
		s.After = s.Before
		return true
	case 2:
		e, behind, err := codec.Decode(s.After, x.payload)
		if err == api.OK {
			s.Events, s.After = append(s.Events, e), behind
		}
		return err == api.OK
	}
	l, ok := three(x.payload)
	return ok && l == [3]uint64{uint64(len(s.Events)), uint64(s.After.Seq), uint64(s.After.At)}
}

// same: are both the same? A list is nil or empty alike.
func same(a, b api.Scan) bool {
	return a.Num == b.Num && a.Status == b.Status && a.Size == b.Size && slices.Equal(a.Events, b.Events) && sameAhead(a.Before, b.Before) && sameAhead(a.After, b.After)
}

// wantScan asks for just this of bytes, for the bytes as they were, and for what was read to have just its bytes.
func wantScan(t *testing.T, b []byte, want api.Scan) {
	t.Helper()
	was := slices.Clone(b)
	s := Read(b)
	if !same(s, want) {
		t.Errorf("%q: %v, want %v", b, s, want)
	}
	if !bytes.Equal(b, was) {
		t.Errorf("%q became %q", was, b)
	}
	wantMadeAgain(t, b, s)
}

// wantMadeAgain asks for the very bytes of what was read, sealed if it was, and for none where nothing was.
func wantMadeAgain(t *testing.T, b []byte, s api.Scan) {
	t.Helper()
	if s.Num == 0 {
		if !same(s, api.Scan{Status: s.Status}) || s.Status == end && len(b) > 0 || s.Status == sealed {
			t.Errorf("%q: %v, and no Head", b, s)
		}
		return
	}
	open, err := Make(s.Num, s.Before, s.Events, false)
	closed, wrong := Make(s.Num, s.Before, s.Events, true)
	if err != api.OK || wrong != api.OK || s.Size > len(b) {
		t.Errorf("%v: errors %d and %d", s, err, wrong)
		return
	}
	read := b[:s.Size]
	if s.Status == end && !bytes.Equal(b, open) || s.Status == sealed && !bytes.Equal(b, closed) || s.Status == torn && !bytes.Equal(read, open) {
		t.Errorf("%q: %v, made again %q", b, s, open)
	}
	if s.Status == broken && !bytes.Equal(read, open) && !bytes.Equal(read, closed) {
		t.Errorf("%q: %v, made again %q", b, s, open)
	}
}

// wantNothing asks for no Head, and how the bytes end.
func wantNothing(t *testing.T, b []byte, status int) {
	t.Helper()
	wantScan(t, b, api.Scan{Status: status})
}

// scan that is asked for: of a segment's first events, whose bytes they are, and how it ends.
func (x row) scan(many, size, status int) api.Scan {
	x.l = x.l[:many]
	_, stands := parts(x, false)
	return api.Scan{Num: x.num, Before: x.before, Events: x.l, After: stands[many], Status: status, Size: size}
}

// P9.2: no bytes.
func TestReadNothing(t *testing.T) {
	for _, b := range [][]byte{nil, {}, joined(head(1, 0, 0))[:0]} {
		wantNothing(t, b, end)
	}
}

// P9.2, P9.4: segments are read as they were, sealed or not.
func TestReadAsItWas(t *testing.T) {
	for _, x := range rows() {
		open, _ := Make(x.num, x.before, x.l, false)
		wantScan(t, open, x.scan(len(x.l), len(open), end))
		closed, _ := Make(x.num, x.before, x.l, true)
		wantScan(t, closed, x.scan(len(x.l), len(closed), sealed))
	}
}

// P9.2: the bytes of two events that are known, byte by byte.
func TestReadKnown(t *testing.T) {
	b := []byte("\x00\x08\x01\x66\x62\x78\x31\x0c\xac\x02\x05\x80\x82\x5e\xc6\x00\x08\x02\x01\x01\x00\x00\x02\x64\x62\x01\x70\x40\x60\xf9\x00\x06\x02\x03\x01\x03\x01\x01\x07\x25\x36\x05\x98\x00\x04\x03\x02\xae\x02\x08\xe9\xb5\x5f\x04")
	l := few()[0].l
	want := api.Scan{Num: 12, Before: api.Ctx{Seq: 300, At: 5}, Events: l, After: api.Ctx{Seq: 302, At: 8, Names: []string{"db"}}, Status: sealed, Size: 54}
	wantScan(t, b, want)
	want.Status, want.Size = end, 43
	wantScan(t, b[:43], want)
	want.Status = torn
	wantScan(t, b[:53], want)
	want.Events, want.After, want.Size, want.Status = l[:1], api.Ctx{Seq: 301, At: 5, Names: []string{"db"}}, 30, end
	wantScan(t, b[:30], want)
	want.Events, want.After, want.Size = nil, want.Before, 15
	wantScan(t, b[:15], want)
}

// P9.2, P9.4: each segment cut at each byte has a beginning of its events, and is Torn, or at an End, behind a whole frame.
func TestReadCut(t *testing.T) {
	for _, x := range rows() {
		l, _ := parts(x, true)
		b := joined(l...)
		many, last := 0, 0
		for at := range b {
			if at > 0 && many < len(l) && at == last+7+len(l[many].payload) {
				many, last = many+1, at
			}
			status := torn
			if at == last {
				status = end
			}
			if many == 0 {
				wantNothing(t, b[:at], status)
			} else if want := x.scan(many-1, last, status); !same(Read(b[:at]), want) {
				t.Errorf("%q cut at %d: %v, want %v", b, at, Read(b[:at]), want)
			}
		}
		if many != len(l)-1 {
			t.Errorf("%q has %d whole frames, not %d", b, many, len(l)-1)
		}
	}
}

// P9.2, P9.4: what is cut at each byte, made again, has just the bytes that were read.
func TestReadCutMadeAgain(t *testing.T) {
	for _, x := range rows() {
		if len(x.l) > 50 {
			continue
		}
		b, _ := Make(x.num, x.before, x.l, true)
		for at := range len(b) + 1 {
			wantScan(t, b[:at], scanned(b[:at]))
		}
	}
}

// P9.2: Heads that may not be: nothing is read, whatever is behind them.
func TestReadWrongHead(t *testing.T) {
	l, _ := parts(few()[0], true)
	for _, payload := range headings() {
		b := joined(part{1, payload})
		wantNothing(t, b, broken)
		wantNothing(t, slices.Concat(b, joined(l...)), broken)
		wantNothing(t, slices.Concat(b, joined(l[1:]...)), broken)
		wantNothing(t, slices.Concat(b, []byte{0}), broken)
		for at := range b {
			status := torn
			if at == 0 {
				status = end
			}
			wantNothing(t, b[:at], status)
		}
	}
}

// P9.2: Heads of each number and each thing ahead are read, with a Record behind them where one may follow.
func TestReadHead(t *testing.T) {
	for _, num := range nums {
		for _, c := range aheads() {
			x := row{num, c, nil}
			b := joined(head(uint64(num), uint64(c.Seq), uint64(c.At)))
			wantScan(t, b, x.scan(0, len(b), end))
			if c.Seq < mostSeq {
				x.l = []api.Event{{Seq: c.Seq + 1, At: c.At, Kind: api.Trip, Comp: "a"}}
				p, _ := record(c, x.l[0])
				b = append(b, framed(p)...)
				wantScan(t, b, x.scan(1, len(b), end))
			}
		}
	}
}

// P9.2: a Record, a Seal, or something else where no Head is.
func TestReadNoHead(t *testing.T) {
	for _, x := range few() {
		l, _ := parts(x, true)
		for k := 1; k < len(l); k++ {
			wantNothing(t, joined(l[k]), broken)
			wantNothing(t, joined(l[k:]...), broken)
			wantNothing(t, joined(l[k], l[0]), broken)
			wantNothing(t, slices.Concat(joined(l[k]), joined(l...)), broken)
		}
		b := joined(l...)
		for at := 1; at < len(b); at++ {
			wantScan(t, b[at:], scanned(b[at:]))
		}
	}
	for _, payload := range [][]byte{nil, {0}, {0, 0, 0}, spelt("fbx1", 12, 300, 5), spelt("", 0, 300, 5)} {
		wantNothing(t, joined(part{2, payload}), broken)
		wantNothing(t, joined(part{3, payload}), broken)
	}
	for _, s := range []string{"seven b", "\xff\xff\xff\xff\xff\xff\xff", "\x00\x00\x00\x00\x00\x00\x00", "\x00\xc9\x01\x00\x00\x00\x00", "fbx1\x0c\xac\x02\x05"} {
		wantNothing(t, []byte(s), broken)
		wantNothing(t, []byte(s[:6]), torn)
	}
	wantNothing(t, []byte("\x00\x08\x01\x66\x62\x78\x31"), torn)
	wantNothing(t, []byte("\x00\xc8\x07\x00\x00\x00\x00\x00"), torn)
}

// behindEach puts a frame behind each whole frame ahead of the Seal, with what follows, and asks for what was read up to it.
func behindEach(t *testing.T, x row, p part) {
	t.Helper()
	l, _ := parts(x, true)
	for k := 1; k < len(l); k++ {
		ahead := joined(l[:k]...)
		want := x.scan(k-1, len(ahead), broken)
		wantScan(t, slices.Concat(ahead, framed(p)), want)
		wantScan(t, slices.Concat(ahead, framed(p), joined(l[k:]...)), want)
		wantScan(t, slices.Concat(ahead, framed(p), []byte{0}), want)
		want.Status = torn
		for at := 1; at < len(framed(p)); at++ {
			wantScan(t, slices.Concat(ahead, framed(p)[:at]), want)
		}
	}
}

// P9.2: a second Head, of any number, behind a Head and behind Records.
func TestReadSecondHead(t *testing.T) {
	for _, x := range few() {
		for _, p := range []part{head(12, 300, 5), head(13, 300, 5), head(13, 302, 8), head(13, 301, 5), head(1, 0, 0), {1, nil}, {1, []byte("fbx1")}} {
			behindEach(t, x, p)
		}
	}
}

// P9.2: Records whose payload is no event, or one that may not follow.
func TestReadWrongRecord(t *testing.T) {
	x := few()[0]
	for _, s := range []string{"", "\x00", "\x04", "\x00\x01\x00\x00\x01a\x00", "\x0b\x01\x00\x00\x01a\x00", "\x04\x00\x00\x00\x01a\x00", "\x04\x01\x00\x00\x00\x00", "\x04\x01\x00\x00\x01a\x03", "\x04\x01\x00\x00\x01a\x00\x00", "\x04\x01\x00\x00\x01a", "\x04\x81\x00\x00\x00\x01a\x00", "\x04\x01\x80\x00\x00\x01a\x00", "\x04\x01\x00\x03\x00", "\x04\x01\x00\x02\x00", "\x04\xd5\xfd\xff\xff\x0f\x00\x00\x01a\x00", "\x04\x01\xfc\xff\xff\xff\xff\x1f\x00\x01a\x00", "\x04\x01\x00\x00\x19nnnnnnnnnnnnnnnnnnnnnnnnn\x00", "fbx1\x0c\xac\x02\x05", "\x04\x01\xff\xff\xff\xff\xff\xff\xff\xff\xff\x01\x00\x01a\x00", "\x04\xff\xff\xff\xff\xff\xff\xff\xff\xff\x01\x00\x00\x01a\x00"} {
		behindEach(t, x, part{2, []byte(s)})
	}
	behindEach(t, x, part{2, make([]byte, 200)})
	db := []api.Event{{Seq: 301, At: 5, Kind: api.Trip, Comp: "db"}}
	l, _ := parts(row{12, x.before, db}, false)
	known := joined(l...)
	for _, s := range []string{"\x04\x01\x00\x00\x02db\x00", "\x04\x01\x00\x02\x00", "\x04\x01\x00\x81\x00\x00"} {
		wantScan(t, slices.Concat(known, joined(part{2, []byte(s)})), row{12, x.before, db}.scan(1, len(known), broken))
	}
}

// P9.2: names go by what stands behind the event ahead: a 33rd one may not follow, and a name's place is of none before it was told.
func TestReadNames(t *testing.T) {
	x := row{7, api.Ctx{}, nil}
	for k, s := range listOf(mostNames) {
		x.l = append(x.l, api.Event{Seq: int64(k + 1), Kind: api.Trip, Comp: s})
		l, _ := parts(x, false)
		b := joined(l...)
		wantScan(t, b, x.scan(k+1, len(b), end))
		wantScan(t, slices.Concat(b, joined(part{2, []byte{4, 1, 0, byte(k + 2), 0}})), x.scan(k+1, len(b), broken))
		more := slices.Concat(b, joined(part{2, []byte("\x04\x01\x00\x00\x01z\x00")}))
		want := x.scan(k+1, len(b), broken)
		if k+1 < mostNames {
			y := row{7, api.Ctx{}, append(slices.Clone(x.l), api.Event{Seq: int64(k + 2), Kind: api.Trip, Comp: "z"})}
			want = y.scan(k+2, len(more), end)
		}
		wantScan(t, more, want)
		again := row{7, api.Ctx{}, append(slices.Clone(x.l), api.Event{Seq: int64(k + 2), Kind: api.Trip, Comp: "n0"})}
		more = slices.Concat(b, joined(part{2, []byte{4, 1, 0, 1, 0}}))
		wantScan(t, more, again.scan(k+2, len(more), end))
	}
}

// P9.2: Seals whose count, Seq or At is another, or that have bytes behind these or too few, or numbers of more bytes than they need.
func TestReadWrongSeal(t *testing.T) {
	for _, x := range few() {
		many, behind := len(x.l), x.scan(len(x.l), 0, 0).After
		n, seq, at := uint64(many), uint64(behind.Seq), uint64(behind.At)
		l, _ := parts(x, false)
		b := joined(l...)
		right := spelt("", n, seq, at)
		wrong := [][]byte{nil, {0}, append(slices.Clone(right), 0), append(slices.Clone(right), right...), append([]byte{0}, right...), spelt("fbx1", n, seq, at), spelt("", n), spelt("", n, seq), spelt("", seq, n, at), make([]byte, 200)}
		for _, by := range []uint64{1, 2, 127, 128, 1 << 32, 1 << 40, 1 << 63, 1<<64 - 1, 1<<64 - 2} {
			wrong = append(wrong, spelt("", n+by, seq, at), spelt("", n, seq+by, at), spelt("", n, seq, at+by))
		}
		for k := range right {
			wrong = append(wrong, right[:k])
			if right[k] < 128 {
				wrong = append(wrong, slices.Concat(right[:k], []byte{right[k] + 128, 0}, right[k+1:]))
			}
		}
		wantScan(t, slices.Concat(b, framed(part{3, right})), x.scan(many, len(b)+7+len(right), sealed))
		for _, payload := range wrong {
			if bytes.Equal(payload, right) {
				continue
			}
			wantScan(t, slices.Concat(b, framed(part{3, payload})), x.scan(many, len(b), broken))
			wantScan(t, slices.Concat(b, framed(part{3, payload}), framed(part{3, right})), x.scan(many, len(b), broken))
		}
	}
}

// P9.2: a Seal may come behind each event, if it tells of just those ahead.
func TestReadSealAtEach(t *testing.T) {
	x := few()[1]
	for many := range len(x.l) + 1 {
		l, stands := parts(row{x.num, x.before, x.l[:many]}, false)
		b := joined(l...)
		for k, c := range stands {
			p := seal(uint64(k), uint64(c.Seq), uint64(c.At))
			want := x.scan(many, len(b), broken)
			if k == many {
				want = x.scan(many, len(b)+len(framed(p)), sealed)
			}
			wantScan(t, slices.Concat(b, framed(p)), want)
		}
	}
}

// P9.2: behind a Seal one byte more, a whole frame more, a piece of one: Broken, and all is read.
func TestReadBehindSeal(t *testing.T) {
	for _, x := range few() {
		l, stands := parts(x, true)
		b := joined(l...)
		want := x.scan(len(x.l), len(b), broken)
		for k := range 256 {
			wantScan(t, append(slices.Clone(b), byte(k)), want)
			wantScan(t, append(slices.Clone(b), bytes.Repeat([]byte{byte(k)}, 300)...), want)
		}
		more := append(slices.Clone(l), head(13, 302, 8), part{2, nil}, part{3, nil}, seal(0, 0, 0))
		if c := stands[len(stands)-1]; c.Seq < mostSeq {
			p, behind := record(c, api.Event{Seq: c.Seq + 1, At: c.At, Kind: api.Trip, Comp: "z"})
			more = append(more, p, seal(uint64(len(x.l)+1), uint64(behind.Seq), uint64(behind.At)))
		}
		for _, p := range more {
			for at := 1; at <= len(framed(p)); at++ {
				wantScan(t, slices.Concat(b, framed(p)[:at]), want)
			}
		}
		wantScan(t, slices.Concat(b, b), want)
	}
}

// P9.2: behind an End one byte more, or a piece of what may be a frame: Torn; what may be none: Broken.
func TestReadBehindEnd(t *testing.T) {
	for _, x := range few() {
		b, _ := Make(x.num, x.before, x.l, false)
		for k := range 256 {
			for many := 1; many < 7; many++ {
				wantScan(t, slices.Concat(b, bytes.Repeat([]byte{byte(k)}, many)), x.scan(len(x.l), len(b), torn))
			}
		}
		for s, status := range map[string]int{"\x00\xc8\x02\x00\x00\x00\x00": torn, "\x00\xc8\x09\x00\x00\x00\x00\x00": torn, "\x00\xc9\x02\x00\x00\x00\x00": broken, "\x01\x00\x02\x00\x00\x00\x00": broken, "\x00\x00\x02\x00\x00\x00\x00": broken, "\x00\x01\x02\x00\x00\x00\x00": torn, "\x00\x01\x02\x00\x00\x00\x00\x00": broken} {
			wantScan(t, slices.Concat(b, []byte(s)), x.scan(len(x.l), len(b), status))
		}
	}
}

// P9.2: a frame whose sum is another, or any byte of which was changed: nothing of it is read.
func TestReadChanged(t *testing.T) {
	for _, x := range few() {
		l, _ := parts(x, true)
		b := joined(l...)
		from := 0
		for k, p := range l {
			for at := from + 2; at < from+7+len(p.payload); at++ {
				for _, by := range []byte{1, 2, 8, 64, 128, 255, 254} {
					other := slices.Clone(b)
					other[at] ^= by
					if k == 0 {
						wantNothing(t, other, broken)
					} else {
						wantScan(t, other, x.scan(k-1, from, broken))
					}
				}
			}
			from += 7 + len(p.payload)
		}
		for at := range b {
			for _, by := range []byte{1, 2, 128, 255} {
				other := slices.Clone(b)
				other[at] += by
				wantScan(t, other, scanned(other))
			}
		}
	}
}

// P9.2, P9.4: segments whose frames are whole, but for other payloads: each byte of each changed, put or left out.
func TestReadOtherPayloads(t *testing.T) {
	how := map[int]int{}
	for _, x := range few() {
		l, _ := parts(x, true)
		for k, p := range l {
			var others [][]byte
			for at := range len(p.payload) + 1 {
				for _, by := range []byte{0, 1, 2, 127, 128, 255} {
					others = append(others, slices.Insert(slices.Clone(p.payload), at, by))
					if at < len(p.payload) {
						other := slices.Clone(p.payload)
						other[at] += by
						others = append(others, other, slices.Delete(slices.Clone(p.payload), at, at+1))
					}
				}
			}
			for _, other := range others {
				b := joined(slices.Concat(l[:k], []part{{p.kind, other}}, l[k+1:])...)
				want := scanned(b)
				wantScan(t, b, want)
				how[want.Status]++
			}
		}
	}
	if how[sealed] < 20 || how[broken] < 1000 {
		t.Errorf("ends: %v", how)
	}
}

// P9.2, P9.4: frames of a segment in each order, some of them twice, some left out.
func TestReadOrders(t *testing.T) {
	x := few()[1]
	l, _ := parts(x, true)
	l = append(l, seal(0, 9, 0), seal(1, 10, 0))
	how := map[int]int{}
	var grow func(some []part)
	grow = func(some []part) {
		b := joined(some...)
		want := scanned(b)
		wantScan(t, b, want)
		how[want.Status]++
		if len(some) < 5 {
			for _, p := range l {
				grow(append(slices.Clone(some), p))
			}
		}
	}
	grow(nil)
	if how[sealed] != 6 || how[end] != 22 {
		t.Errorf("ends: %v", how)
	}
}

// P9.4: a next segment goes on with the number and the time that stand behind the last one, and its names are its own.
func TestNextGoesOn(t *testing.T) {
	before := api.Ctx{}
	for k := range 20 {
		x := row{int64(k + 1), before, run(before, k, listOf(5), 3, 7)}
		b, err := Make(x.num, x.before, x.l, k%2 == 0)
		s := Read(b)
		if err != api.OK || s.Num != x.num || !sameAhead(s.Before, before) || !slices.Equal(s.Events, x.l) {
			t.Fatalf("segment %d: error %d, %v", k+1, err, s)
		}
		if want := x.scan(k, 0, 0).After; !sameAhead(s.After, want) {
			t.Errorf("behind segment %d stands %v, want %v", k+1, s.After, want)
		}
		before = api.Ctx{Seq: s.After.Seq, At: s.After.At}
	}
}

// P9.1, P9.4: what Head, Add and Seal answer, one behind the other, is what Make answers, and is read at each step.
func TestStepByStep(t *testing.T) {
	for _, x := range rows() {
		if len(x.l) > 50 {
			continue
		}
		b, _ := Head(x.num, x.before)
		behind := x.before
		for k, e := range x.l {
			wantScan(t, b, x.scan(k, len(b), end))
			var more []byte
			more, behind, _ = Add(behind, e)
			b = append(b, more...)
		}
		open, err := Make(x.num, x.before, x.l, false)
		wantBytes(t, x, b, err, open)
		last, _ := Seal(len(x.l), behind)
		b = append(b, last...)
		closed, err := Make(x.num, x.before, x.l, true)
		wantBytes(t, x, b, err, closed)
	}
}

// P9.2, P9.4: a segment of many thousand events.
func TestReadLong(t *testing.T) {
	x := row{99, api.Ctx{Seq: 5, At: 5}, run(api.Ctx{Seq: 5, At: 5}, 4000, listOf(mostNames), 2, 3)}
	b, err := Make(x.num, x.before, x.l, true)
	if err != api.OK {
		t.Fatalf("error %d", err)
	}
	want := x.scan(4000, len(b), sealed)
	wantScan(t, b, want)
	want.Status = broken
	wantScan(t, append(slices.Clone(b), 0), want)
	wantScan(t, b[:len(b)-1], scanned(b[:len(b)-1]))
}

// P9.2: what was handed in stays as it was, its spare room too, and what came shares nothing with it, nor do its lists with one another.
func TestReadIsNew(t *testing.T) {
	for _, x := range rows() {
		b, _ := Make(x.num, x.before, x.l, true)
		all := slices.Concat(b, []byte("\x00\x00\x02 what is behind it"))
		was := slices.Clone(all)
		for _, at := range []int{len(b), len(b) - 1, len(b) + 3, 0} {
			s := Read(all[:at])
			names := slices.Clone(s.After.Names)
			for k := range s.Events[:cap(s.Events)] {
				s.Events[:cap(s.Events)][k] = api.Event{Comp: "spoilt"}
			}
			spoil(nil, s.Before)
			if !slices.Equal(s.After.Names, names) {
				t.Fatalf("names %v became %v", names, s.After.Names)
			}
			spoil(nil, s.After)
			if !bytes.Equal(all, was) {
				t.Fatalf("%q became %q", was, all)
			}
		}
		s := Read(all[:len(b)])
		spoil(all, api.Ctx{})
		if !same(s, x.scan(len(x.l), len(b), sealed)) {
			t.Errorf("%v was spoilt", s)
		}
	}
}

// P9.1 to P9.3: each call answers the same again, whatever was asked between.
func TestAgain(t *testing.T) {
	for _, x := range rows() {
		b, _ := Make(x.num, x.before, x.l, true)
		s := Read(b)
		Read(b[:len(b)/2])
		Read([]byte("\x00\x08\x01\x66\x62\x78\x31\x0c\xac\x02\x05\x80\x82\x5e\xc6"))
		Make(0, x.before, x.l, true)
		Seal(math.MaxInt, x.before)
		again, _ := Make(x.num, x.before, x.l, true)
		if !bytes.Equal(b, again) || !same(s, Read(b)) {
			t.Errorf("%v: %q, then %q", x, b, again)
		}
	}
}

// The chapter's examples.
func TestExamples(t *testing.T) {
	if s := Read(nil); s.Status != api.End || s.Size != 0 || s.Num != 0 {
		t.Errorf("no bytes: %v", s)
	}
	b, _ := Make(1, api.Ctx{}, []api.Event{{Seq: 1, At: 5, Kind: api.Trip, Comp: "db", A: 1}}, true)
	if s := Read(append(b, 0)); s.Status != api.Broken || s.Size != len(b) || len(s.Events) != 1 {
		t.Errorf("one byte more: %v", s)
	}
}
