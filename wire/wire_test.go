package wire

import (
	"bytes"
	"math"
	"math/big"
	"slices"
	"strings"
	"testing"

	"fusebox/api"
)

// numbers with their bytes, at each edge that the document or the type has.
var numbers = []struct {
	n uint64
	b string
}{
	{0, "\x00"}, {1, "\x01"}, {2, "\x02"}, {64, "\x40"}, {126, "\x7e"}, {127, "\x7f"},
	{128, "\x80\x01"}, {129, "\x81\x01"}, {255, "\xff\x01"}, {256, "\x80\x02"}, {300, "\xac\x02"}, {16383, "\xff\x7f"},
	{16384, "\x80\x80\x01"}, {1<<21 - 1, "\xff\xff\x7f"}, {1 << 21, "\x80\x80\x80\x01"},
	{1<<28 - 1, "\xff\xff\xff\x7f"}, {1 << 28, "\x80\x80\x80\x80\x01"},
	{1<<31 - 1, "\xff\xff\xff\xff\x07"}, {1 << 32, "\x80\x80\x80\x80\x10"},
	{1<<35 - 1, "\xff\xff\xff\xff\x7f"}, {1 << 35, "\x80\x80\x80\x80\x80\x01"}, {1 << 40, "\x80\x80\x80\x80\x80\x20"},
	{1<<42 - 1, "\xff\xff\xff\xff\xff\x7f"}, {1 << 42, "\x80\x80\x80\x80\x80\x80\x01"},
	{1<<49 - 1, "\xff\xff\xff\xff\xff\xff\x7f"}, {1 << 49, "\x80\x80\x80\x80\x80\x80\x80\x01"},
	{1<<56 - 1, "\xff\xff\xff\xff\xff\xff\xff\x7f"}, {1 << 56, "\x80\x80\x80\x80\x80\x80\x80\x80\x01"},
	{1<<63 - 1, "\xff\xff\xff\xff\xff\xff\xff\xff\x7f"}, {1 << 63, "\x80\x80\x80\x80\x80\x80\x80\x80\x80\x01"},
	{1<<63 + 1, "\x81\x80\x80\x80\x80\x80\x80\x80\x80\x01"},
	{1<<64 - 2, "\xfe\xff\xff\xff\xff\xff\xff\xff\xff\x01"}, {1<<64 - 1, "\xff\xff\xff\xff\xff\xff\xff\xff\xff\x01"},
}

// signed numbers with their bytes.
var signed = []struct {
	n int64
	b string
}{
	{0, "\x00"}, {-1, "\x01"}, {1, "\x02"}, {-2, "\x03"}, {2, "\x04"},
	{63, "\x7e"}, {-64, "\x7f"}, {64, "\x80\x01"}, {-65, "\x81\x01"}, {150, "\xac\x02"}, {-150, "\xab\x02"},
	{8191, "\xfe\x7f"}, {-8192, "\xff\x7f"}, {8192, "\x80\x80\x01"}, {-8193, "\x81\x80\x01"},
	{1<<31 - 1, "\xfe\xff\xff\xff\x0f"}, {-1 << 31, "\xff\xff\xff\xff\x0f"},
	{1<<62 - 1, "\xfe\xff\xff\xff\xff\xff\xff\xff\x7f"}, {-1 << 62, "\xff\xff\xff\xff\xff\xff\xff\xff\x7f"},
	{1 << 62, "\x80\x80\x80\x80\x80\x80\x80\x80\x80\x01"},
	{math.MaxInt64 - 1, "\xfc\xff\xff\xff\xff\xff\xff\xff\xff\x01"}, {math.MaxInt64, "\xfe\xff\xff\xff\xff\xff\xff\xff\xff\x01"},
	{math.MinInt64 + 1, "\xfd\xff\xff\xff\xff\xff\xff\xff\xff\x01"}, {math.MinInt64, "\xff\xff\xff\xff\xff\xff\xff\xff\xff\x01"},
}

// none are bytes with which no number begins, and why.
var none = []struct {
	b   string
	err api.Errno
}{
	{"", api.ErrShort}, {"\x80", api.ErrShort}, {"\xff", api.ErrShort}, {"\x80\x80\x80", api.ErrShort},
	{strings.Repeat("\x80", 8), api.ErrShort}, {strings.Repeat("\x80", 9), api.ErrShort}, {strings.Repeat("\xff", 9), api.ErrShort},
	{strings.Repeat("\x80", 10), api.ErrForm}, {strings.Repeat("\xff", 10), api.ErrForm}, {strings.Repeat("\xff", 11), api.ErrForm},
	{strings.Repeat("\xff", 10) + "\x00", api.ErrForm}, {strings.Repeat("\xff", 10) + "\x01", api.ErrForm}, {strings.Repeat("\xff", 40) + "\x01", api.ErrForm},
	{strings.Repeat("\xff", 9) + "\x02", api.ErrForm}, {strings.Repeat("\x80", 9) + "\x02", api.ErrForm},
	{strings.Repeat("\x80", 9) + "\x03", api.ErrForm}, {strings.Repeat("\xff", 9) + "\x7f", api.ErrForm},
	{strings.Repeat("\xff", 9) + "\x02\x01", api.ErrForm},
	{"\x80\x00", api.ErrForm}, {"\xff\x00", api.ErrForm}, {"\x80\x80\x00", api.ErrForm}, {"\x81\x82\x83\x00", api.ErrForm}, {"\x80\x00\x01", api.ErrForm},
	{strings.Repeat("\xff", 8) + "\x00", api.ErrForm}, {strings.Repeat("\xff", 9) + "\x00", api.ErrForm}, {strings.Repeat("\x80", 9) + "\x00", api.ErrForm},
}

// wrong are cursors that aren't right, with the error that a read makes of each.
var wrong = []struct {
	c   api.Cursor
	err api.Errno
}{
	{api.Cursor{At: -1}, api.ErrArg}, {api.Cursor{At: 1}, api.ErrArg}, {api.Cursor{At: math.MinInt}, api.ErrArg}, {api.Cursor{At: math.MaxInt}, api.ErrArg},
	{api.Cursor{Bytes: []byte("\x01a\x05"), At: -1}, api.ErrArg}, {api.Cursor{Bytes: []byte("\x01a\x05"), At: 4}, api.ErrArg},
	{api.Cursor{Bytes: []byte("\x01a\x05\x06")[:3], At: 4}, api.ErrArg},
	{api.Cursor{Bytes: []byte("\x01a\x05"), At: math.MinInt}, api.ErrArg}, {api.Cursor{Bytes: []byte("\x01a\x05"), At: math.MaxInt}, api.ErrArg},
	{api.Cursor{Bytes: []byte("\x01a\x05"), Err: api.ErrSum}, api.ErrSum}, {api.Cursor{Bytes: []byte("\x01a\x05"), At: 2, Err: api.ErrShort}, api.ErrShort},
	{api.Cursor{Bytes: []byte("\x01a\x05"), At: 3, Err: api.ErrForm}, api.ErrForm}, {api.Cursor{Err: api.ErrArg}, api.ErrArg},
	{api.Cursor{Bytes: []byte("\x01a\x05"), Err: -7}, -7}, {api.Cursor{Bytes: []byte("\x01a\x05"), Err: 99}, 99},
	{api.Cursor{Bytes: []byte("\x01a\x05"), At: -1, Err: api.ErrDown}, api.ErrDown}, {api.Cursor{Bytes: []byte("\x01a\x05"), At: 9, Err: api.ErrMany}, api.ErrMany},
}

// within puts bytes between others, with spare room behind, and has a cursor at them: it ends with them.
func within(b string) api.Cursor {
	all := []byte("\x80\xff" + b + "\x05\x00\x01zz")
	return api.Cursor{Bytes: all[:2+len(b)], At: 2}
}

// same asks for the very bytes, not only for like ones, so that a cursor is seen to stay in what it was handed.
func same(a, b api.Cursor) bool {
	if a.At != b.At || a.Err != b.Err || len(a.Bytes) != len(b.Bytes) {
		return false
	}
	return len(a.Bytes) == 0 || &a.Bytes[0] == &b.Bytes[0]
}

// went is a cursor that is so many bytes on, or that stays with an error.
func went(c api.Cursor, n int, err api.Errno) api.Cursor {
	return api.Cursor{Bytes: c.Bytes, At: c.At + n, Err: err}
}

// bytesOf works a number's bytes out by digits of base 2.
func bytesOf(n *big.Int) []byte {
	digits := n.Text(2)
	var b []byte
	for len(digits) > 7 {
		b = append(b, 128+sevenOf(digits[len(digits)-7:]))
		digits = digits[:len(digits)-7]
	}
	return append(b, sevenOf(digits))
}

func sevenOf(digits string) byte {
	n, _ := new(big.Int).SetString(digits, 2)
	return byte(n.Int64())
}

// doubled is what a signed number is put as, worked out where nothing wraps round.
func doubled(n int64) *big.Int {
	twice := new(big.Int).Lsh(big.NewInt(n), 1)
	if n < 0 {
		twice.Neg(twice).Sub(twice, big.NewInt(1))
	}
	return twice
}

// wantNew hands a piece of a greater row to a put, and asks for that piece with the wanted bytes behind it, in memory of its own, and for the row as it was.
func wantNew(t *testing.T, what string, put func(b []byte) []byte, want string) {
	t.Helper()
	for _, spare := range []int{0, 1, 4, 400} {
		for _, ahead := range []string{"", "x", "\x80\x00ab"} {
			row := append([]byte(ahead), bytes.Repeat([]byte{0xee}, spare)...)
			was := slices.Clone(row)
			got := put(row[:len(ahead)])
			if string(got) != ahead+want {
				t.Errorf("%s behind %q: %q, want %q", what, ahead, got, ahead+want)
			}
			if !bytes.Equal(row, was) {
				t.Errorf("%s behind %q with room for %d more: the row is now %q", what, ahead, spare, row)
			}
			for k := range got {
				got[k]++
			}
			if !bytes.Equal(row, was) {
				t.Errorf("%s behind %q with room for %d more: the answer is the row's memory", what, ahead, spare)
			}
		}
	}
	if got := put(nil); string(got) != want {
		t.Errorf("%s behind nothing: %q, want %q", what, got, want)
	}
}

// P3.1: PutUint, at each edge and around each power of 2.
func TestPutUint(t *testing.T) {
	for _, x := range numbers {
		wantNew(t, "a number", func(b []byte) []byte { return PutUint(b, x.n) }, x.b)
	}
	for k := range 64 {
		for d := range uint64(5) {
			n := 1<<k + d - 2
			want := bytesOf(new(big.Int).SetUint64(n))
			if b := PutUint(nil, n); !bytes.Equal(b, want) {
				t.Errorf("PutUint(%d) = %d, want %d", n, b, want)
			}
		}
	}
}

// P3.1: how many bytes a number has: no more than its sevens.
func TestHowManyBytes(t *testing.T) {
	for k := 1; k <= 9; k++ {
		end := uint64(1) << (7 * k)
		if a, b := len(PutUint(nil, end-1)), len(PutUint(nil, end)); a != k || b != k+1 {
			t.Errorf("at 2^%d: %d and %d bytes, want %d and %d", 7*k, a, b, k, k+1)
		}
	}
	for _, x := range []struct {
		n    uint64
		many int
	}{{0, 1}, {127, 1}, {128, 2}, {300, 2}, {1<<64 - 1, 10}} {
		if b := PutUint(nil, x.n); len(b) != x.many {
			t.Errorf("%d has %d bytes, want %d", x.n, len(b), x.many)
		}
	}
}

// P3.1: PutInt.
func TestPutInt(t *testing.T) {
	for _, x := range signed {
		wantNew(t, "a signed number", func(b []byte) []byte { return PutInt(b, x.n) }, x.b)
	}
	for k := range 64 {
		for d := range int64(5) {
			for _, n := range []int64{1<<k + d - 2, -1<<k + d - 2} {
				if b, want := PutInt(nil, n), bytesOf(doubled(n)); !bytes.Equal(b, want) {
					t.Errorf("PutInt(%d) = %d, want %d", n, b, want)
				}
			}
		}
	}
}

// P3.1: PutText: its length, and then its own bytes, whichever.
func TestPutText(t *testing.T) {
	for _, x := range []struct{ s, b string }{
		{"", "\x00"}, {"a", "\x01a"}, {"fuse", "\x04fuse"}, {"\x00", "\x01\x00"}, {"\xff\xfe", "\x02\xff\xfe"}, {"ä", "\x02\xc3\xa4"},
		{strings.Repeat("k", 127), "\x7f" + strings.Repeat("k", 127)},
		{strings.Repeat("k", 128), "\x80\x01" + strings.Repeat("k", 128)},
		{strings.Repeat("\x80", 300), "\xac\x02" + strings.Repeat("\x80", 300)},
	} {
		wantNew(t, "a text", func(b []byte) []byte { return PutText(b, x.s) }, x.b)
	}
}

// P3.1: two that are put behind one piece don't write into each other.
func TestPutTwiceBehindOne(t *testing.T) {
	first := PutText(make([]byte, 0, 100), "abc")
	a, b, c := PutUint(first, 5), PutInt(first, 5), PutText(first, "")
	if string(first) != "\x03abc" || string(a) != "\x03abc\x05" || string(b) != "\x03abc\x0a" || string(c) != "\x03abc\x00" {
		t.Errorf("behind %q: %q, %q, %q", first, a, b, c)
	}
}

// P3.1: Start.
func TestStart(t *testing.T) {
	for _, b := range [][]byte{nil, {}, {7}, []byte("\x80\x01abc"), make([]byte, 3, 9)} {
		if c := Start(b); !same(c, api.Cursor{Bytes: b}) {
			t.Errorf("Start(%q) = %v", b, c)
		}
	}
}

// P3.2: Left, of cursors that are right and of those that aren't.
func TestLeft(t *testing.T) {
	b := []byte("abcde")
	for at := range 6 {
		if n := Left(api.Cursor{Bytes: b, At: at}); n != 5-at {
			t.Errorf("Left at %d of 5: %d", at, n)
		}
		if n := Left(api.Cursor{Bytes: b, At: at, Err: api.ErrForm}); n != 0 {
			t.Errorf("Left at %d of 5 with an error ahead: %d", at, n)
		}
	}
	if n := Left(api.Cursor{Bytes: make([]byte, 3, 20), At: 1}); n != 2 {
		t.Errorf("Left with spare room: %d, want 2", n)
	}
	if n := Left(Start(nil)); n != 0 {
		t.Errorf("Left of nothing: %d", n)
	}
	for _, x := range wrong {
		if n := Left(x.c); n != 0 {
			t.Errorf("Left(%v) = %d, want 0", x.c, n)
		}
	}
}

// P3.2: Uint of a number's bytes, whatever is behind them.
func TestUint(t *testing.T) {
	for _, x := range numbers {
		for _, behind := range []string{"", "\x00", "\x01", "\x7f", "\x80", "\xff\xff\xff\xff\xff\xff\xff\xff\xff\xff\xff"} {
			c := within(x.b + behind)
			if d, n := Uint(c); n != x.n || !same(d, went(c, len(x.b), api.OK)) {
				t.Errorf("Uint of %q and %q: %v, %d, want %d", x.b, behind, d, n, x.n)
			}
		}
		if d, n := Uint(Start([]byte(x.b))); n != x.n || d.At != len(x.b) || d.Err != api.OK {
			t.Errorf("Uint of just %q: %v, %d, want %d", x.b, d, n, x.n)
		}
	}
}

// P3.2: Uint where there is no number: it stays, but for its error.
func TestUintOfNone(t *testing.T) {
	for _, x := range none {
		c := within(x.b)
		if d, n := Uint(c); n != 0 || !same(d, went(c, 0, x.err)) {
			t.Errorf("Uint of %q: %v, %d, want error %d", x.b, d, n, x.err)
		}
		if d, n := Uint(Start([]byte(x.b))); n != 0 || d.At != 0 || d.Err != x.err {
			t.Errorf("Uint of just %q: %v, %d, want error %d", x.b, d, n, x.err)
		}
	}
	for _, x := range numbers {
		for k := range len(x.b) {
			c := within(x.b[:k])
			if d, n := Uint(c); n != 0 || !same(d, went(c, 0, api.ErrShort)) {
				t.Errorf("Uint of %q cut at %d: %v, %d", x.b, k, d, n)
			}
		}
	}
}

// P3.2: each tenth byte, and each byte of ten.
func TestTenBytes(t *testing.T) {
	for last := range 256 {
		b := append(bytes.Repeat([]byte{0x80}, 9), byte(last), 1)
		c, n := Uint(Start(b))
		if last == 1 && (n != 1<<63 || c.At != 10 || c.Err != api.OK) || last != 1 && (n != 0 || c.At != 0 || c.Err != api.ErrForm) {
			t.Errorf("a tenth byte %d: %v, %d", last, c, n)
		}
	}
	for place := range 9 {
		for seven := range uint64(128) {
			b := append(bytes.Repeat([]byte{0x80}, 9), 1)
			b[place] += byte(seven)
			if c, n := Uint(Start(b)); n != 1<<63+seven<<(7*place) || c.At != 10 || c.Err != api.OK {
				t.Errorf("%d at %d of ten: %v, %d", seven, place, c, n)
			}
		}
	}
}

// P3.2, P3.3: what isn't right stays as it is, but that an error is told, for every read.
func TestWrongCursors(t *testing.T) {
	for _, x := range wrong {
		want := went(x.c, 0, x.err)
		if c, n := Uint(x.c); n != 0 || !same(c, want) {
			t.Errorf("Uint(%v) = %v, %d", x.c, c, n)
		}
		if c, n := Int(x.c); n != 0 || !same(c, want) {
			t.Errorf("Int(%v) = %v, %d", x.c, c, n)
		}
		for _, k := range []int{math.MinInt, -1, 0, 1, 3, math.MaxInt} {
			if c, b := Take(x.c, k); len(b) != 0 || !same(c, want) {
				t.Errorf("Take(%v, %d) = %v, %q", x.c, k, c, b)
			}
			if c, s := Text(x.c, k); s != "" || !same(c, want) {
				t.Errorf("Text(%v, %d) = %v, %q", x.c, k, c, s)
			}
		}
	}
}

// P3.3: Int.
func TestInt(t *testing.T) {
	for _, x := range signed {
		for _, behind := range []string{"", "\x00", "\x01", "\xff"} {
			c := within(x.b + behind)
			if d, n := Int(c); n != x.n || !same(d, went(c, len(x.b), api.OK)) {
				t.Errorf("Int of %q and %q: %v, %d, want %d", x.b, behind, d, n, x.n)
			}
		}
	}
	for _, x := range none {
		c := within(x.b)
		if d, n := Int(c); n != 0 || !same(d, went(c, 0, x.err)) {
			t.Errorf("Int of %q: %v, %d, want error %d", x.b, d, n, x.err)
		}
	}
}

// P3.3: Take of each number of bytes, from each place, and no further than the end, though there is spare room.
func TestTake(t *testing.T) {
	all := []byte("abcdefgh")
	for at := range 6 {
		c := api.Cursor{Bytes: all[:5], At: at}
		for n := range 6 - at {
			if d, b := Take(c, n); string(b) != "abcde"[at:at+n] || !same(d, went(c, n, api.OK)) {
				t.Errorf("Take of %d at %d: %v, %q", n, at, d, b)
			}
		}
		for _, n := range []int{6 - at, 7 - at, 9, math.MaxInt - 1, math.MaxInt} {
			if d, b := Take(c, n); len(b) != 0 || !same(d, went(c, 0, api.ErrShort)) {
				t.Errorf("Take of %d at %d: %v, %q", n, at, d, b)
			}
		}
		for _, n := range []int{-1, -2, -at, math.MinInt} {
			if d, b := Take(c, n); n < 0 && (len(b) != 0 || !same(d, went(c, 0, api.ErrArg))) {
				t.Errorf("Take of %d at %d: %v, %q", n, at, d, b)
			}
		}
	}
	if c, b := Take(Start(nil), 0); len(b) != 0 || !same(c, Start(nil)) {
		t.Errorf("Take of 0 of nothing: %v, %q", c, b)
	}
}

// P3.3: who changes what was taken, or puts more behind it, changes nothing that is still to be read.
func TestTakenBytesAreNew(t *testing.T) {
	all := []byte("abcdefgh")
	c, b := Take(Start(all), 3)
	b[0] = 'z'
	_ = append(b, "zzzz"...)
	if d, rest := Take(c, 5); string(all) != "abcdefgh" || string(rest) != "defgh" || Left(d) != 0 {
		t.Errorf("now there are %q, and behind %q", all, rest)
	}
}

// P3.3: Text, of no bytes, of most bytes, and of one more.
func TestText(t *testing.T) {
	for _, s := range []string{"", "a", "fuse", "\x00\xff", strings.Repeat("k", 24), strings.Repeat("\x80", 127), strings.Repeat("k", 128), strings.Repeat("k", 300)} {
		long := len(PutText(nil, s))
		for _, behind := range []string{"", "z", "\x00", "\xff\xff"} {
			c := within(string(PutText(nil, s)) + behind)
			for _, most := range []int{len(s), len(s) + 1, 1000, math.MaxInt} {
				if d, got := Text(c, most); got != s || !same(d, went(c, long, api.OK)) {
					t.Errorf("Text of %q and %q, at most %d: %v, %q", s, behind, most, d, got)
				}
			}
			for _, most := range []int{len(s) - 1, -1, math.MinInt} {
				if d, got := Text(c, most); got != "" || !same(d, went(c, 0, api.ErrMany)) {
					t.Errorf("Text of %q and %q, at most %d: %v, %q", s, behind, most, d, got)
				}
			}
		}
	}
}

// P3.3: Text where there is none, and which error is first.
func TestTextOfNone(t *testing.T) {
	for _, x := range none {
		for _, most := range []int{math.MinInt, -1, 0, 200, math.MaxInt} {
			c := within(x.b)
			if d, s := Text(c, most); s != "" || !same(d, went(c, 0, x.err)) {
				t.Errorf("Text of %q: %v, %q, want error %d", x.b, d, s, x.err)
			}
		}
	}
	for _, x := range []struct {
		b    string
		most int
		err  api.Errno
	}{
		{"\x01", 1, api.ErrShort}, {"\x04fus", 4, api.ErrShort}, {"\x04fus", 3, api.ErrMany}, {"\x04", math.MaxInt, api.ErrShort},
		{"\x80\x01" + strings.Repeat("k", 127), 128, api.ErrShort}, {"\x80\x01" + strings.Repeat("k", 127), 127, api.ErrMany},
		{"\x01", 0, api.ErrMany}, {"\x00", -1, api.ErrMany},
		{string(PutUint(nil, math.MaxInt64)) + "k", math.MaxInt, api.ErrShort},
		{string(PutUint(nil, math.MaxInt64)) + "k", math.MaxInt - 1, api.ErrMany},
		{string(PutUint(nil, 1<<63)) + "k", math.MaxInt, api.ErrMany},
		{string(PutUint(nil, 1<<63+1)) + "k", 1, api.ErrMany},
		{string(PutUint(nil, 1<<64-1)) + "k", math.MaxInt, api.ErrMany},
		{string(PutUint(nil, 1<<32)) + "k", 200, api.ErrMany},
		{string(PutUint(nil, 1<<32+1)) + "k", math.MaxInt, api.ErrShort},
	} {
		c := within(x.b)
		if d, s := Text(c, x.most); s != "" || !same(d, went(c, 0, x.err)) {
			t.Errorf("Text of %q, at most %d: %v, %q, want error %d", x.b, x.most, d, s, x.err)
		}
	}
}

// P3.4: what was put is read as it was, one behind the other, and the bytes stay as they were.
func TestOneBehindTheOther(t *testing.T) {
	var b []byte
	for _, x := range numbers {
		b = PutText(PutUint(b, x.n), x.b)
	}
	for _, x := range signed {
		b = append(PutInt(b, x.n), x.b...)
	}
	was := slices.Clone(b)
	c := Start(b)
	for _, x := range numbers {
		var n uint64
		var s string
		c, n = Uint(c)
		c, s = Text(c, 10)
		if n != x.n || s != x.b || c.Err != api.OK {
			t.Fatalf("at %d: %d, %q, want %d, %q", c.At, n, s, x.n, x.b)
		}
	}
	for _, x := range signed {
		var n int64
		var own []byte
		c, n = Int(c)
		c, own = Take(c, len(x.b))
		if n != x.n || string(own) != x.b || c.Err != api.OK {
			t.Fatalf("at %d: %d, %q, want %d, %q", c.At, n, own, x.n, x.b)
		}
	}
	if Left(c) != 0 || c.At != len(b) || !bytes.Equal(b, was) {
		t.Errorf("%d left at %d of %d", Left(c), c.At, len(b))
	}
	if c, n := Uint(c); n != 0 || c.Err != api.ErrShort || c.At != len(b) {
		t.Errorf("behind the end: %v, %d", c.Err, n)
	}
}

// texts calls f with each list of at most so many of some bytes.
func texts(some []byte, most int, f func(b []byte)) {
	var grow func(b []byte)
	grow = func(b []byte) {
		f(b)
		if len(b) == most {
			return
		}
		for _, x := range some {
			grow(append(slices.Clone(b), x))
		}
	}
	grow(nil)
}

// P3.4: bytes that are read as something are just that thing's.
func TestBytesOfJustOne(t *testing.T) {
	texts([]byte{0, 1, 2, 3, 127, 128, 129, 130, 255}, 4, func(b []byte) {
		for _, ahead := range []int{0, 6, 8} {
			all := append(bytes.Repeat([]byte{0x81}, ahead), b...)
			wantJust(t, all)
		}
	})
}

func wantJust(t *testing.T, b []byte) {
	t.Helper()
	was := slices.Clone(b)
	if c, n := Uint(Start(b)); c.Err == api.OK && !bytes.Equal(b[:c.At], PutUint(nil, n)) {
		t.Errorf("of %d was read %d", b, n)
	}
	if c, n := Int(Start(b)); c.Err == api.OK && !bytes.Equal(b[:c.At], PutInt(nil, n)) {
		t.Errorf("of %d was read %d, signed", b, n)
	}
	if c, s := Text(Start(b), 3); c.Err == api.OK && !bytes.Equal(b[:c.At], PutText(nil, s)) {
		t.Errorf("of %d was read %q", b, s)
	}
	if !bytes.Equal(b, was) {
		t.Errorf("%d is now %d", was, b)
	}
}

// The chapter's examples.
func TestExamples(t *testing.T) {
	if b := PutUint(nil, 300); !bytes.Equal(b, []byte{172, 2}) {
		t.Errorf("300: %d", b)
	}
	if a, b := PutInt(nil, -1), PutInt(nil, 1); !bytes.Equal(a, []byte{1}) || !bytes.Equal(b, []byte{2}) {
		t.Errorf("-1: %d, 1: %d", a, b)
	}
}
