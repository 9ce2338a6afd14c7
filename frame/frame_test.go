package frame

import (
	"bytes"
	"hash/crc32"
	"math"
	"slices"
	"testing"

	"fusebox/api"
	"fusebox/crc"
)

// The limit and the numbers as the document says them, so that a wrong constant shows as well.
const (
	longest = 200
	whole   = 0
	end     = 1
	torn    = 2
	broken  = 3
)

// kinds are all there are.
var kinds = []int{1, 2, 3}

// wrongKinds are none, some of which a byte or 32 bits would hold as one that is.
var wrongKinds = []int{0, 4, 5, 9, -1, -2, -3, -253, -254, -255, 127, 128, 255, 256, 257, 258, 259, 1<<16 + 1, math.MaxInt32, math.MinInt32, 1<<32 + 1, 1<<32 + 2, math.MaxInt, math.MinInt, math.MinInt + 1}

// lengths of payloads that may be: at both ends and between.
var lengths = []int{0, 1, 2, 3, 4, 5, 7, 9, 40, 127, 128, 198, 199, 200}

// tooLong are lengths that may not be, some of which one or two bytes would hold as one that may.
var tooLong = []int{201, 202, 207, 255, 256, 257, 300, 456, 512, 65535, 65536, 65537, 65736, 1 << 20}

// ends of rows, where the bytes of a frame may end or go on.
var ends = []string{"", "\x00", "\x01", "\xff", "\x00\x00\x01\x84\xe9\x46", "\x00\x00\x01\x84\xe9\x46\x88", "\x00\xc9\x01", "what is behind it"}

// row of so many bytes, each other than the next.
func row(many int) []byte {
	b := make([]byte, many)
	for k := range b {
		b[k] = byte(k*k*7 + k*31 + 200)
	}
	return b
}

// payloads of so many bytes, of which some look like a frame's.
func payloads(many int) [][]byte {
	l := [][]byte{row(many), make([]byte, many), bytes.Repeat([]byte{255}, many), bytes.Repeat([]byte("\x00\x00\x01\x84\xe9\x46\x88"), many)[:many]}
	if many == 0 {
		return [][]byte{nil, {}, row(9)[:0]}
	}
	return l
}

// sealed puts behind bytes the four of their sum, the lowest first, as another library has it.
func sealed(b []byte) []byte {
	n := crc32.ChecksumIEEE(b)
	return append(slices.Clone(b), byte(n), byte(n>>8), byte(n>>16), byte(n>>24))
}

// spelt are a frame's bytes, as the chapter says them.
func spelt(kind int, payload []byte) []byte {
	return sealed(append([]byte{byte(len(payload) >> 8), byte(len(payload)), byte(kind)}, payload...))
}

// stands says what some bytes begin with: a frame of each type and each length is held against them.
func stands(b []byte) (int, int, []byte, int) {
	if len(b) == 0 {
		return end, 0, nil, 0
	}
	for _, kind := range kinds {
		for n := range min(longest, len(b)-7) + 1 {
			if b[1] != byte(n) || b[2] != byte(kind) {
				continue
			}
			payload := b[3 : 3+n]
			if bytes.HasPrefix(b, spelt(kind, payload)) {
				return whole, kind, payload, n + 7
			}
		}
	}
	if len(b) < 7 {
		return torn, 0, nil, 0
	}
	if n := int(b[0])<<8 | int(b[1]); n <= longest && len(b) < n+7 {
		return torn, 0, nil, 0
	}
	return broken, 0, nil, 0
}

// wantNext asks for just this at a place, and for the bytes as they were.
func wantNext(t *testing.T, b []byte, at, want, kind int, payload []byte, many int) {
	t.Helper()
	was := slices.Clone(b)
	status, k, p, n := Next(b, at)
	if status != want || k != kind || !bytes.Equal(p, payload) || n != many {
		t.Errorf("at %d of %d: %d, %d, %d, %d, want %d, %d, %d, %d", at, was, status, k, p, n, want, kind, payload, many)
	}
	if !bytes.Equal(b, was) {
		t.Errorf("%d became %d", was, b)
	}
}

// wantNone asks for no frame at a place.
func wantNone(t *testing.T, b []byte, at, want int) {
	t.Helper()
	wantNext(t, b, at, want, 0, nil, 0)
}

// wantAsStands asks for what the chapter says stands at each place, and for Broken at others.
func wantAsStands(t *testing.T, b []byte) {
	t.Helper()
	for at := range len(b) + 1 {
		status, kind, payload, many := stands(b[at:])
		wantNext(t, b, at, status, kind, payload, many)
	}
	wantOutside(t, b)
}

// wantOutside asks for Broken at places that are none.
func wantOutside(t *testing.T, b []byte) {
	t.Helper()
	for _, at := range []int{-1, -2, -7, -len(b) - 1, math.MinInt32, math.MinInt + 1, math.MinInt} {
		wantNone(t, b, at, broken)
	}
	for _, far := range []int{1, 2, 7, 207, 65536, 1 << 30} {
		wantNone(t, b, len(b)+far, broken)
	}
	for _, at := range []int{math.MaxInt32, 1 << 32, math.MaxInt - 7, math.MaxInt - 1, math.MaxInt} {
		wantNone(t, b, at, broken)
	}
}

// P8.1: the bytes of frames that are known, byte by byte.
func TestPutKnown(t *testing.T) {
	for _, x := range []struct {
		kind          int
		payload, want string
	}{
		{api.Record, "\x09\x09", "\x00\x02\x02\x09\x09\x15\xe8\xb1\xc7"},
		{api.Head, "", "\x00\x00\x01\x84\xe9\x46\x88"},
		{api.Seal, "abc", "\x00\x03\x03abc\x4d\xec\xb2\x2e"},
	} {
		if b, err := Put(x.kind, []byte(x.payload)); err != api.OK || string(b) != x.want {
			t.Errorf("type %d, %q: %q, error %d", x.kind, x.payload, b, err)
		}
		wantNext(t, []byte(x.want), 0, whole, x.kind, []byte(x.payload), len(x.want))
	}
}

// P8.1: each type, each length, whichever bytes.
func TestPut(t *testing.T) {
	for _, kind := range kinds {
		for many := range longest + 1 {
			for _, payload := range payloads(many) {
				b, err := Put(kind, payload)
				if err != api.OK || !bytes.Equal(b, spelt(kind, payload)) {
					t.Errorf("type %d, %d: %d, error %d", kind, payload, b, err)
				}
				if len(b) != many+7 || b[0] != 0 || int(b[1]) != many || int(b[2]) != kind || !bytes.Equal(b[3:3+many], payload) {
					t.Errorf("type %d, %d: %d", kind, payload, b)
				}
				if got, err := crc.Open(crc.Table(), b); err != api.OK || !bytes.Equal(got, b[:3+many]) {
					t.Errorf("%d is opened as %d, error %d", b, got, err)
				}
			}
		}
	}
}

// P8.1: a payload of each one byte.
func TestPutOneByte(t *testing.T) {
	for _, kind := range kinds {
		for x := range 256 {
			payload := []byte{byte(x)}
			if b, err := Put(kind, payload); err != api.OK || !bytes.Equal(b, spelt(kind, payload)) {
				t.Errorf("type %d, %d: %d, error %d", kind, payload, b, err)
			}
		}
	}
}

// P8.1: a type that there is not comes first, whatever the payload.
func TestPutWrongKind(t *testing.T) {
	for _, kind := range wrongKinds {
		for _, many := range append(slices.Clone(lengths), tooLong...) {
			if b, err := Put(kind, row(many)); err != api.ErrKind || len(b) != 0 {
				t.Errorf("type %d, %d bytes: %d, error %d", kind, many, b, err)
			}
		}
		if b, err := Put(kind, nil); err != api.ErrKind || len(b) != 0 {
			t.Errorf("type %d, nothing: %d, error %d", kind, b, err)
		}
	}
}

// P8.1: a payload that is too long, of each type.
func TestPutTooLong(t *testing.T) {
	for _, kind := range kinds {
		for _, many := range tooLong {
			for _, payload := range payloads(many) {
				if b, err := Put(kind, payload); err != api.ErrMany || len(b) != 0 {
					t.Errorf("type %d, %d bytes: %d, error %d", kind, many, b, err)
				}
			}
		}
	}
}

// P8.2: of no bytes.
func TestNextOfNothing(t *testing.T) {
	for _, b := range [][]byte{nil, {}, spelt(1, nil)[:0]} {
		wantNone(t, b, 0, end)
		wantOutside(t, b)
	}
}

// P8.2: whole frames one behind the other, at each place, and at places that are none.
func TestNextOfRows(t *testing.T) {
	var b []byte
	type frame struct{ at, kind, many int }
	var l []frame
	for k, many := range []int{0, 200, 2, 1, 0, 0, 199, 40, 7} {
		l = append(l, frame{at: len(b), kind: k%3 + 1, many: many})
		b = append(b, spelt(k%3+1, row(many))...)
	}
	for _, x := range l {
		wantNext(t, b, x.at, whole, x.kind, row(x.many), x.many+7)
	}
	wantNone(t, b, len(b), end)
	wantAsStands(t, b)
}

// P8.2: frames are gone through by how many bytes each one has, until the end.
func TestNextGoesOn(t *testing.T) {
	var b []byte
	for k := range 300 {
		part, err := Put(k%3+1, row(k%201))
		if err != api.OK {
			t.Fatalf("frame %d: error %d", k, err)
		}
		b = append(b, part...)
	}
	at := 0
	for k := range 300 {
		status, kind, payload, many := Next(b, at)
		if status != whole || kind != k%3+1 || !bytes.Equal(payload, row(k%201)) || many != len(payload)+7 {
			t.Fatalf("frame %d at %d: %d, %d, %d, %d", k, at, status, kind, payload, many)
		}
		at += many
	}
	if at != len(b) {
		t.Errorf("the end is at %d, not at %d", len(b), at)
	}
	wantNone(t, b, at, end)
}

// P8.2: one to six bytes left are Torn, whichever they are: also with a length that is too long, or a type that there is not.
func TestNextOfFewLeft(t *testing.T) {
	for _, long := range []int{0, 1, 2, 3, 199, 200, 201, 255, 256, 257, 65535} {
		for _, kind := range []byte{0, 1, 2, 3, 4, 255} {
			b := sealed([]byte{byte(long >> 8), byte(long), kind})
			for many := 1; many < 7; many++ {
				wantNone(t, b[:many], 0, torn)
				wantNone(t, slices.Concat(row(9), b[:many]), 9, torn)
			}
		}
	}
	for x := range 256 {
		for many := 1; many < 7; many++ {
			wantNone(t, bytes.Repeat([]byte{byte(x)}, many), 0, torn)
		}
	}
}

// P8.2: just seven bytes left: a frame of nothing, one that is broken, one of which more is to come, or a length that is too long.
func TestNextOfSevenLeft(t *testing.T) {
	for kind := range 256 {
		b := sealed([]byte{0, 0, byte(kind)})
		if kind == 1 || kind == 2 || kind == 3 {
			wantNext(t, b, 0, whole, kind, nil, 7)
		} else {
			wantNone(t, b, 0, broken)
		}
		for at := 3; at < 7; at++ {
			other := slices.Clone(b)
			other[at]++
			wantNone(t, other, 0, broken)
		}
		for _, long := range []int{1, 2, 199, 200} {
			wantNone(t, sealed([]byte{0, byte(long), byte(kind)}), 0, torn)
		}
		for _, long := range []int{201, 202, 255, 256, 257, 456, 65535} {
			wantNone(t, sealed([]byte{byte(long >> 8), byte(long), byte(kind)}), 0, broken)
		}
	}
}

// P8.2: each length in the first two bytes, of which just enough, one too few and more than enough bytes are left; none of these fits its sum.
func TestNextOfEachLength(t *testing.T) {
	for long := range 65536 {
		b := make([]byte, min(long, 300)+9)
		b[0], b[1], b[2] = byte(long>>8), byte(long), 2
		if long <= longest {
			for _, many := range []int{7, long + 5, long + 6} {
				if many >= 7 && many < long+7 {
					wantNone(t, b[:many], 0, torn)
				}
			}
			wantNone(t, b[:long+7], 0, broken)
		} else {
			wantNone(t, b[:7], 0, broken)
		}
		wantNone(t, b, 0, broken)
	}
	for _, long := range []int{201, 202, 255, 256, 257, 456, 65535} {
		for _, kind := range []byte{0, 1, 2, 3, 4, 255} {
			b := sealed(append([]byte{byte(long >> 8), byte(long), kind}, row(long)...))
			for _, many := range []int{7, 8, 207, 208, long + 6, long + 7} {
				wantNone(t, b[:min(many, len(b))], 0, broken)
			}
			wantNone(t, append(b, "behind"...), 0, broken)
		}
	}
}

// P8.2: frames of 200 and 199 bytes, of which just enough, one too few and more than enough are left.
func TestNextAroundTheEnd(t *testing.T) {
	for _, kind := range kinds {
		for _, many := range lengths {
			b := spelt(kind, row(many))
			wantNext(t, b, 0, whole, kind, row(many), many+7)
			wantNone(t, b[:many+6], 0, torn)
			wantNext(t, append(slices.Clone(b), 0), 0, whole, kind, row(many), many+7)
			wantNext(t, append(slices.Clone(b), b...), many+7, whole, kind, row(many), many+7)
			wantNone(t, append(slices.Clone(b), b[:many+6]...), many+7, torn)
		}
	}
}

// P8.2: bytes that are sealed right, of each type that a byte may tell.
func TestNextOfEachKind(t *testing.T) {
	for kind := range 256 {
		for _, many := range lengths {
			b := spelt(kind, row(many))
			if kind == 1 || kind == 2 || kind == 3 {
				wantNext(t, b, 0, whole, kind, row(many), many+7)
				continue
			}
			wantNone(t, b, 0, broken)
			wantNone(t, append(slices.Clone(b), spelt(1, nil)...), 0, broken)
			wantNone(t, b[:many+6], 0, torn)
		}
	}
}

// P8.2: all that a frame says is right but its sum, which is another one by one bit, or the other way round, or that of the payload alone, or is missing.
func TestNextOfAnotherSum(t *testing.T) {
	for _, kind := range kinds {
		for _, many := range lengths {
			b := spelt(kind, row(many))
			for bit := range 32 {
				other := slices.Clone(b)
				other[many+3+bit/8] ^= 1 << (bit % 8)
				wantNone(t, other, 0, broken)
			}
			turned := slices.Clone(b)
			slices.Reverse(turned[many+3:])
			wantNone(t, turned, 0, broken)
			wantNone(t, append(slices.Clone(b[:3]), sealed(row(many))...), 0, broken)
			wantNone(t, append(slices.Clone(b[:many+3]), 0, 0, 0, 0), 0, broken)
		}
	}
}

// P8.2: the length's higher byte comes first.
func TestNextOfLengthTurned(t *testing.T) {
	for _, long := range []int{1, 2, 199, 200} {
		b := sealed(append([]byte{byte(long), 0, 2}, row(long)...))
		wantNone(t, b, 0, broken)
	}
}

// P8.2: all short rows of a few bytes, and of frames and pieces of them, as the chapter says.
func TestNextOfShortRows(t *testing.T) {
	rows := [][]byte{nil}
	for range 4 {
		var next [][]byte
		for _, b := range rows {
			for _, part := range []string{"\x00", "\x01", "\x02", "\xc8", "\xc9", "\x00\x00\x01\x84\xe9\x46\x88", "\x00\x02\x02\x09\x09\x15\xe8\xb1\xc7"} {
				next = append(next, append(slices.Clone(b), part...))
			}
		}
		for _, b := range next {
			wantAsStands(t, b)
		}
		rows = next
	}
}

// P8.3: each frame is read as it was, whatever is behind it and ahead of it.
func TestReadAsItWas(t *testing.T) {
	for _, kind := range kinds {
		for _, many := range lengths {
			for _, payload := range payloads(many) {
				b, _ := Put(kind, payload)
				for _, x := range ends {
					wantNext(t, append(slices.Clone(b), x...), 0, whole, kind, payload, many+7)
					wantNext(t, slices.Concat([]byte(x), b, []byte(x)), len(x), whole, kind, payload, many+7)
				}
			}
		}
	}
	for x := range 256 {
		b := append(spelt(2, []byte{9, 9}), byte(x))
		wantNext(t, b, 0, whole, 2, []byte{9, 9}, 9)
	}
}

// P8.3: a frame that is cut anywhere is Torn, or, of nothing, End; also where what was cut off is in the spare room.
func TestCut(t *testing.T) {
	for _, kind := range kinds {
		for _, many := range lengths {
			for _, payload := range payloads(many) {
				b, _ := Put(kind, payload)
				for k := range b {
					want := torn
					if k == 0 {
						want = end
					}
					wantNone(t, b[:k], 0, want)
					wantNone(t, slices.Clone(b[:k]), 0, want)
					wantNone(t, slices.Concat(b, b[:k]), len(b), want)
				}
			}
		}
	}
}

// P8.3: each byte but the first two, changed to each other one.
func TestEachByteChanged(t *testing.T) {
	for _, kind := range kinds {
		for _, many := range []int{0, 1, 2, 5, 40} {
			b := append(spelt(kind, row(many)), spelt(2, row(60))...)
			for at := 2; at < many+7; at++ {
				for x := range 255 {
					other := slices.Clone(b)
					other[at] += byte(x + 1)
					wantNone(t, other, 0, broken)
					wantNone(t, other[:many+7], 0, broken)
				}
			}
		}
	}
}

// changes of four bytes: each two bits, all bits, and many others.
func changes() []uint32 {
	l := []uint32{math.MaxUint32, 0xFF0000FF, 0x00FFFF00, 0x80000001, 3988292384, 0x04C11DB7, 0xDB710641}
	for k := range 32 {
		for j := range k + 1 {
			l = append(l, 1<<k|1<<j)
		}
	}
	n := uint32(1)
	for range 200 {
		n = n*1664525 + 1013904223
		l = append(l, n|1)
	}
	return l
}

// changed within four bytes, by the bits of a number.
func changed(b []byte, at int, by uint32) []byte {
	other := slices.Clone(b)
	for k := range 4 {
		other[at+k] ^= byte(by >> (8 * k))
	}
	return other
}

// P8.3: a frame's bytes changed within four that follow one another, none of them one of the first two: at the type, in the payload, across the place where the sum begins, and in the sum.
func TestChangedWithinFour(t *testing.T) {
	l := changes()
	for _, many := range []int{0, 1, 2, 3, 4, 9, 21} {
		for _, kind := range kinds {
			b := spelt(kind, row(many))
			for at := 2; at+4 <= len(b); at++ {
				for _, by := range l {
					wantNone(t, changed(b, at, by), 0, broken)
				}
			}
		}
	}
	b := append(spelt(2, row(200)), spelt(2, nil)...)
	for at := 2; at+4 <= 207; at++ {
		for _, by := range l[:7] {
			wantNone(t, changed(b, at, by), 0, broken)
		}
	}
}

// P8.3: whichever the type is changed to, with each byte of the payload beside it, no frame is whole.
func TestKindAndPayloadChanged(t *testing.T) {
	for _, kind := range kinds {
		b := spelt(kind, []byte{9})
		for other := range 256 {
			for x := range 256 {
				if other != kind || x != 9 {
					c := slices.Clone(b)
					c[2], c[3] = byte(other), byte(x)
					wantNone(t, c, 0, broken)
				}
			}
		}
	}
}

// P8.2, P8.3: each length put in place of a frame's own.
func TestLengthChanged(t *testing.T) {
	for _, many := range []int{0, 1, 5, 200} {
		b := append(spelt(2, row(many)), spelt(3, row(40))...)
		for long := range 65536 {
			if long > 300 && long%256 > 3 && long%97 > 0 {
				continue
			}
			b[0], b[1] = byte(long>>8), byte(long)
			status, kind, payload, n := stands(b)
			if long != many && status == whole {
				t.Errorf("%d bytes as %d are whole", many, long)
			}
			wantNext(t, b, 0, status, kind, payload, n)
		}
	}
}

// P8.2: where the length is changed, a shorter frame may stand there.
func TestLengthChangedToAShorterFrame(t *testing.T) {
	for _, kind := range kinds {
		for _, many := range []int{0, 1, 5, 40, 188} {
			inner := spelt(kind, row(many))
			outer := spelt(kind, append(slices.Clone(inner[3:]), "behind"...))
			wantNext(t, outer, 0, whole, kind, outer[3:len(outer)-4], len(outer))
			copy(outer, inner[:2])
			wantNext(t, outer, 0, whole, kind, row(many), many+7)
		}
	}
}

// P8.2: a frame within a frame's payload stands there too.
func TestFrameWithinAFrame(t *testing.T) {
	inner := spelt(3, []byte("abc"))
	b := spelt(2, inner)
	wantNext(t, b, 0, whole, 2, inner, 17)
	wantNext(t, b, 3, whole, 3, []byte("abc"), 10)
	wantAsStands(t, b)
}

// P8.1, P8.2: what was handed in stays as it was, its spare room too, and what came shares nothing with it.
func TestHandedInStays(t *testing.T) {
	for _, kind := range append(slices.Clone(kinds), 0, 4) {
		for _, many := range append(slices.Clone(lengths), 201, 300) {
			for _, spare := range []int{0, 1, 4, 9, 300} {
				all := slices.Concat(row(many), bytes.Repeat([]byte{0xEE}, spare))
				was := slices.Clone(all)
				b, _ := Put(kind, all[:many])
				spoil(b)
				if !bytes.Equal(all, was) {
					t.Fatalf("%d became %d", was, all)
				}
			}
		}
	}
	for _, many := range lengths {
		for _, spare := range []int{0, 1, 4, 9, 300} {
			all := slices.Concat([]byte("ab"), spelt(2, row(many)), bytes.Repeat([]byte{0xEE}, spare))
			was := slices.Clone(all)
			for _, cut := range []int{many + 9, many + 8, 2, 0} {
				_, _, payload, _ := Next(all[:cut], 2)
				spoil(payload)
				if !bytes.Equal(all, was) {
					t.Fatalf("%d became %d", was, all)
				}
			}
			_, _, payload, _ := Next(all, 2)
			spoil(all)
			if !bytes.Equal(payload, row(many)) {
				t.Errorf("%d became %d", row(many), payload)
			}
		}
	}
}

// spoil what came, its spare room too.
func spoil(b []byte) {
	b = b[:cap(b)]
	for k := range b {
		b[k] = 'x'
	}
}

// P8.1, P8.2: each call answers the same again, whatever was asked between.
func TestAgain(t *testing.T) {
	for _, kind := range kinds {
		for _, many := range lengths {
			b, _ := Put(kind, row(many))
			Put(4, nil)
			Next(b[:3], 0)
			again, _ := Put(kind, row(many))
			if !bytes.Equal(b, again) {
				t.Errorf("%d, then %d", b, again)
			}
			wantNext(t, b, 0, whole, kind, row(many), many+7)
			wantNext(t, b, 0, whole, kind, row(many), many+7)
		}
	}
}

// The chapter's example.
func TestExample(t *testing.T) {
	b, err := Put(api.Record, []byte{9, 9})
	if err != api.OK || len(b) != 9 || !bytes.Equal(b[:5], []byte{0, 2, 2, 9, 9}) {
		t.Errorf("%d, error %d", b, err)
	}
}
