package crc

import (
	"bytes"
	"hash/crc32"
	"math"
	"slices"
	"testing"

	"fusebox/api"
)

// sums by the table, from 0 on, as they are known elsewhere.
var sums = []struct {
	b   string
	sum uint32
}{
	{"", 0}, {"a", 0xE8B7BE43}, {"\x00", 0xD202EF8D}, {"\x80", 0x3FBA6CAD}, {"\xff", 0xFF000000},
	{"\x00\x00\x00\x00", 0x2144DF1C}, {"\xff\xff\xff\xff", 0xFFFFFFFF},
	{"abc", 0x352441C2}, {"123456789", 3421780262},
	{"The quick brown fox jumps over the lazy dog", 0x414FA339},
}

// starts are sums to go on from.
var starts = []uint32{0, 1, 7, 255, 256, 1 << 24, 1 << 31, 0xCBF43926, math.MaxUint32 - 1, math.MaxUint32}

// lengths of rows: around the four bytes of a sum, and around the table's length.
var lengths = []int{0, 1, 2, 3, 4, 5, 7, 8, 9, 40, 255, 256, 257}

// others are tables of other numbers than those of Table.
func others() [][256]uint32 {
	var none, full, own, high, mixed, one [256]uint32
	for k := range 256 {
		full[k] = math.MaxUint32
		own[k] = uint32(k)
		high[k] = uint32(k) << 24
		mixed[k] = uint32(k+1) * 2654435761
	}
	one[128] = 1 << 31
	swapped := Table()
	swapped[3], swapped[200] = swapped[200], swapped[3]
	return [][256]uint32{none, full, own, high, mixed, one, swapped}
}

// row of so many bytes, each other than the next.
func row(many int) []byte {
	b := make([]byte, many)
	for k := range b {
		b[k] = byte(k*k*7 + k*31 + 200)
	}
	return b
}

// slow goes on as the chapter says it: the bits are turned at each byte.
func slow(t [256]uint32, sum uint32, b []byte) uint32 {
	for _, x := range b {
		taken := math.MaxUint32 - sum
		found := t[taken%256^uint32(x)]
		sum = math.MaxUint32 - (found ^ taken/256)
	}
	return sum
}

// ending is a sum as the four bytes that the chapter asks for.
func ending(sum uint32) []byte {
	return []byte{byte(sum % 256), byte(sum / 256 % 256), byte(sum / 65536 % 256), byte(sum / 16777216)}
}

// P4.1: the table's numbers that are known, and all of them as another library has them.
func TestTable(t *testing.T) {
	tab := Table()
	for k, want := range map[int]uint32{
		0: 0, 1: 0x77073096, 2: 0xEE0E612C, 3: 0x990951BA, 8: 0x0EDB8832, 16: 0x1DB71064, 64: 0x76DC4190,
		127: 0xC0BA6CAD, 128: 3988292384, 129: 0x9ABFB3B6, 254: 0x5A05DF1B, 255: 0x2D02EF8D,
	} {
		if tab[k] != want {
			t.Errorf("the number of %d: %#x, want %#x", k, tab[k], want)
		}
	}
	if tab != [256]uint32(*crc32.IEEETable) {
		t.Errorf("the table: %x", tab)
	}
}

// P4.1: who changes a table changes no other.
func TestTableIsNew(t *testing.T) {
	tab := Table()
	tab[1] = 5
	if again := Table(); again[1] != 0x77073096 {
		t.Errorf("the number of 1 is now %#x", again[1])
	}
}

// P4.1: sums that are known.
func TestSum(t *testing.T) {
	tab := Table()
	for _, x := range sums {
		if n := Sum(tab, 0, []byte(x.b)); n != x.sum {
			t.Errorf("Sum of %q: %#x, want %#x", x.b, n, x.sum)
		}
	}
	if n := Sum(tab, 0, nil); n != 0 {
		t.Errorf("Sum of nothing: %#x", n)
	}
	if n := Sum(tab, 0, append(row(9), "123456789"...)[9:]); n != 0xCBF43926 {
		t.Errorf("Sum of a piece: %#x", n)
	}
}

// P4.1: no bytes leave each sum as it is, by any table.
func TestSumOfNothing(t *testing.T) {
	for _, tab := range append(others(), Table()) {
		for _, sum := range starts {
			if a, b := Sum(tab, sum, nil), Sum(tab, sum, []byte{}); a != sum || b != sum {
				t.Errorf("from %#x on, of nothing: %#x, %#x", sum, a, b)
			}
		}
	}
}

// P4.1: each one byte, from 0 on and from 2^32 - 1 on.
func TestSumOfOneByte(t *testing.T) {
	tab := Table()
	for x := range 256 {
		b := []byte{byte(x)}
		if n, want := Sum(tab, 0, b), ^(tab[255-x] ^ 0xFFFFFF); n != want {
			t.Errorf("from 0 on by %d: %#x, want %#x", x, n, want)
		}
		if n, want := Sum(tab, math.MaxUint32, b), ^tab[x]; n != want {
			t.Errorf("from 2^32 - 1 on by %d: %#x, want %#x", x, n, want)
		}
	}
}

// P4.1: sums from each start on, by any table, as the chapter's words and another library have them.
func TestSumFromAnyStart(t *testing.T) {
	for place, tab := range append(others(), Table()) {
		for _, many := range lengths {
			b := row(many)
			for _, sum := range starts {
				n, want := Sum(tab, sum, b), slow(tab, sum, b)
				if theirs := crc32.Update(sum, (*crc32.Table)(&tab), b); n != want || n != theirs {
					t.Errorf("table %d, from %#x on by %d bytes: %#x, want %#x and %#x", place, sum, many, n, want, theirs)
				}
			}
		}
	}
}

// P4.1: wherever bytes are parted, the sum goes on from the first part's, by any table.
func TestSumOfTwoParts(t *testing.T) {
	b := row(40)
	was := slices.Clone(b)
	for place, tab := range append(others(), Table()) {
		for _, sum := range starts {
			want := Sum(tab, sum, b)
			for k := range len(b) + 1 {
				if n := Sum(tab, Sum(tab, sum, b[:k]), b[k:]); n != want {
					t.Errorf("table %d, from %#x on, parted at %d: %#x, want %#x", place, sum, k, n, want)
				}
			}
		}
	}
	if !bytes.Equal(b, was) {
		t.Errorf("the bytes are now %d", b)
	}
}

// P4.1: sums by tables of other numbers, worked out by hand.
func TestSumByOtherTables(t *testing.T) {
	l := others()
	none, full, own, high, one := l[0], l[1], l[2], l[3], l[5]
	for _, x := range []struct {
		what string
		tab  [256]uint32
		sum  uint32
		b    string
		want uint32
	}{
		{what: "none", tab: none, sum: 0, b: "a", want: 0xFF000000},
		{what: "none", tab: none, sum: 0, b: "abcd", want: math.MaxUint32},
		{what: "none", tab: none, sum: 5, b: "a", want: 0xFF000000},
		{what: "none", tab: none, sum: 0x12345678, b: "\x00\xff", want: 0xFFFF1234},
		{what: "full", tab: full, sum: 0, b: "a", want: 0xFFFFFF},
		{what: "full", tab: full, sum: math.MaxUint32, b: "a", want: 0},
		{what: "own", tab: own, sum: 0, b: "\x00", want: 0xFF0000FF},
		{what: "own", tab: own, sum: 0, b: "\x61", want: 0xFF00009E},
		{what: "own", tab: own, sum: math.MaxUint32, b: "\x61", want: 0xFFFFFF9E},
		{what: "high", tab: high, sum: math.MaxUint32, b: "\x61", want: 0x9EFFFFFF},
		{what: "high", tab: high, sum: math.MaxUint32, b: "\x61\x62\x63\x64", want: 0x9B9C9D9E},
		{what: "one", tab: one, sum: math.MaxUint32, b: "\x80", want: 0x7FFFFFFF},
		{what: "one", tab: one, sum: math.MaxUint32, b: "\x7f", want: math.MaxUint32},
		{what: "one", tab: one, sum: math.MaxUint32, b: "\x80\x00\x00\x00", want: 0xFFFFFF7F},
		{what: "one", tab: one, sum: math.MaxUint32, b: "\x80\x00\x00\x00\x00", want: 0x7FFFFFFF},
	} {
		if n := Sum(x.tab, x.sum, []byte(x.b)); n != x.want {
			t.Errorf("table %s, from %#x on by %q: %#x, want %#x", x.what, x.sum, x.b, n, x.want)
		}
	}
}

// P4.2: Seal, of sums that are known: the lowest byte first.
func TestSeal(t *testing.T) {
	tab := Table()
	if b := Seal(tab, []byte("123456789")); string(b) != "123456789\x26\x39\xf4\xcb" {
		t.Errorf("Seal: %q", b)
	}
	for _, b := range [][]byte{nil, {}} {
		if sealed := Seal(tab, b); !bytes.Equal(sealed, make([]byte, 4)) {
			t.Errorf("Seal of nothing: %d", sealed)
		}
	}
	for _, x := range sums {
		if b, want := Seal(tab, []byte(x.b)), x.b+string(ending(x.sum)); string(b) != want {
			t.Errorf("Seal of %q: %q, want %q", x.b, b, want)
		}
	}
}

// P4.2: Seal by any table, of any length.
func TestSealByAnyTable(t *testing.T) {
	for place, tab := range append(others(), Table()) {
		for _, many := range lengths {
			b := row(many)
			if sealed, want := Seal(tab, b), slices.Concat(b, ending(slow(tab, 0, b))); !bytes.Equal(sealed, want) {
				t.Errorf("table %d, %d bytes: %d, want %d", place, many, sealed, want)
			}
		}
	}
}

// wantErr asks for none beside an error, and for the bytes as they were.
func wantErr(t *testing.T, tab [256]uint32, b []byte, want api.Errno) {
	t.Helper()
	was := slices.Clone(b)
	if got, err := Open(tab, b); err != want || len(got) != 0 {
		t.Errorf("Open of %d: %d, error %d, want error %d", b, got, err, want)
	}
	if !bytes.Equal(b, was) {
		t.Errorf("%d is now %d", was, b)
	}
}

// P4.2: fewer than four bytes are too few, whichever they are, by any table, and though there is spare room with a sum in it.
func TestOpenOfTooFew(t *testing.T) {
	for _, tab := range append(others(), Table()) {
		wantErr(t, tab, nil, api.ErrShort)
		for many := range 4 {
			wantErr(t, tab, make([]byte, many), api.ErrShort)
			wantErr(t, tab, make([]byte, many, 9), api.ErrShort)
			wantErr(t, tab, row(many), api.ErrShort)
			wantErr(t, tab, Seal(tab, nil)[:many], api.ErrShort)
			wantErr(t, tab, Seal(tab, []byte("abc"))[:many], api.ErrShort)
		}
	}
}

// P4.2: just four bytes are the sum of nothing, or none.
func TestOpenOfFour(t *testing.T) {
	for _, tab := range append(others(), Table()) {
		if b, err := Open(tab, make([]byte, 4)); err != api.OK || len(b) != 0 {
			t.Errorf("Open of four zeros: %d, error %d", b, err)
		}
		for k := range 32 {
			wantErr(t, tab, ending(1<<k), api.ErrSum)
		}
		wantErr(t, tab, ending(math.MaxUint32), api.ErrSum)
		wantErr(t, tab, []byte("fuse"), api.ErrSum)
	}
}

// P4.2: Open of bytes whose sum is known, and of the same ones with their sum the other way round.
func TestOpen(t *testing.T) {
	tab := Table()
	for _, x := range sums {
		sealed := append([]byte(x.b), ending(x.sum)...)
		if b, err := Open(tab, sealed); err != api.OK || string(b) != x.b {
			t.Errorf("Open of %q: %q, error %d", sealed, b, err)
		}
		slices.Reverse(sealed[len(x.b):])
		if x.b != "" && x.sum != math.MaxUint32 {
			wantErr(t, tab, sealed, api.ErrSum)
		}
	}
	if b, err := Open(tab, []byte("123456789\x26\x39\xf4\xcb")); err != api.OK || string(b) != "123456789" {
		t.Errorf("Open: %q, error %d", b, err)
	}
}

// P4.2: one byte more or fewer than were sealed.
func TestOpenOfOtherLengths(t *testing.T) {
	tab := Table()
	for _, many := range lengths[1:] {
		sealed := Seal(tab, row(many))
		wantErr(t, tab, sealed[:len(sealed)-1], api.ErrSum)
		wantErr(t, tab, sealed[1:], api.ErrSum)
		wantErr(t, tab, append(sealed, 'z'), api.ErrSum)
		wantErr(t, tab, append([]byte{'z'}, sealed...), api.ErrSum)
	}
}

// P4.2: last four bytes that are another sum, by any bit of it, by any table.
func TestOpenOfAnotherSum(t *testing.T) {
	for _, tab := range append(others(), Table()) {
		for _, many := range lengths {
			b := row(many)
			sum := slow(tab, 0, b)
			for k := range 32 {
				wantErr(t, tab, slices.Concat(b, ending(sum^1<<k)), api.ErrSum)
			}
			for _, wrong := range []uint32{sum + 1, sum - 1, ^sum} {
				wantErr(t, tab, slices.Concat(b, ending(wrong)), api.ErrSum)
			}
		}
	}
}

// P4.2: bytes that were sealed by one table are opened by that one.
func TestOpenByAnotherTable(t *testing.T) {
	l := append(others(), Table())
	b := []byte("what was told")
	for place, tab := range l {
		for other := range l {
			if place != other && slow(tab, 0, b) != slow(l[other], 0, b) {
				wantErr(t, l[other], Seal(tab, b), api.ErrSum)
			}
		}
	}
}

// P4.2, P4.3: what was sealed is opened as it was, by any table, whatever is sealed.
func TestSealedIsOpened(t *testing.T) {
	for place, tab := range append(others(), Table()) {
		for _, many := range lengths {
			for _, b := range [][]byte{row(many), make([]byte, many), bytes.Repeat([]byte{255}, many)} {
				if got, err := Open(tab, Seal(tab, b)); err != api.OK || !bytes.Equal(got, b) {
					t.Errorf("table %d, %d: %d, error %d", place, b, got, err)
				}
			}
		}
	}
	tab := Table()
	b := []byte("twice")
	once, _ := Open(tab, Seal(tab, Seal(tab, b)))
	if got, err := Open(tab, once); err != api.OK || !bytes.Equal(got, b) {
		t.Errorf("sealed twice: %q, error %d", got, err)
	}
}

// changes of four bytes: each byte alone in each way, each two bits, and many others.
func changes() []uint32 {
	l := []uint32{math.MaxUint32, 0xFF0000FF, 0x00FFFF00, 0x80000001, 3988292384, 0x04C11DB7, 0xDB710641}
	for k := range 32 {
		for j := range k + 1 {
			l = append(l, 1<<k|1<<j)
		}
	}
	for x := range uint32(255) {
		for k := range 4 {
			l = append(l, (x+1)<<(8*k))
		}
	}
	n := uint32(1)
	for range 500 {
		n = n*1664525 + 1013904223
		l = append(l, n|1)
	}
	return l
}

// change four bytes that follow one another.
func change(b []byte, at int, by uint32) []byte {
	changed := slices.Clone(b)
	for k, x := range ending(by) {
		changed[at+k] ^= x
	}
	return changed
}

// P4.3: sealed bytes that are changed within four: at the beginning, at the end, across the place where the sum begins, and everywhere else.
func TestChangedWithinFour(t *testing.T) {
	tab := Table()
	l := changes()
	for _, many := range []int{0, 1, 2, 3, 4, 5, 9, 23} {
		sealed := Seal(tab, row(many))
		for at := range many + 1 {
			for _, by := range l {
				b := change(sealed, at, by)
				if got, err := Open(tab, b); err != api.ErrSum || len(got) != 0 {
					t.Errorf("%d changed to %d: %d, error %d", sealed, b, got, err)
				}
			}
		}
	}
}

// P4.3: all 2^32 changes of four bytes. Changes are turned together, and so are the sums that they make: none makes no other sum, if none of the 32 of one bit is made of others.
func TestAllChangesWithinFour(t *testing.T) {
	for _, many := range []int{0, 1, 2, 3, 4, 5, 9, 40, 200} {
		sealed := Seal(Table(), row(many))
		for at := range many + 1 {
			var by [32]uint32
			for k := range 32 {
				by[k] = apart(change(sealed, at, 1<<k), many)
			}
			if !free(by) {
				t.Errorf("%d bytes: within the four at %d some change makes no other sum", many, at)
			}
		}
	}
}

// apart is by which bits the last four bytes and the sum of those ahead differ.
func apart(b []byte, ahead int) uint32 {
	want := Seal(Table(), b[:ahead])
	var bits uint32
	for k := range 4 {
		bits |= uint32(b[ahead+k]^want[ahead+k]) << (8 * k)
	}
	return bits
}

// free tells whether none of the numbers is some others of them, turned by one another.
func free(l [32]uint32) bool {
	for k := range l {
		if l[k] == 0 {
			return false
		}
		low := l[k] & -l[k]
		for j := k + 1; j < len(l); j++ {
			if l[j]&low != 0 {
				l[j] ^= l[k]
			}
		}
	}
	return true
}

// P4.1, P4.2: the bytes and the table that are handed in stay as they were, spare room and what is behind it too, and the answers are new memory.
func TestHandedInStays(t *testing.T) {
	tab := Table()
	mine := tab
	for _, many := range lengths {
		for _, spare := range []int{0, 1, 4, 9} {
			whole := append(Seal(tab, row(many)), bytes.Repeat([]byte{0xEE}, spare)...)
			was := slices.Clone(whole)
			Sum(mine, 0, whole[:many])
			sealed := Seal(mine, whole[:many])
			opened, err := Open(mine, whole[:many+4])
			if err != api.OK || !bytes.Equal(opened, was[:many]) || !bytes.Equal(sealed, was[:many+4]) {
				t.Errorf("%d bytes, room for %d more: %d, %d, error %d", many, spare, sealed, opened, err)
			}
			for _, b := range [][]byte{sealed, opened} {
				for k := range b {
					b[k]++
				}
				_ = append(b, "zzzzzz"...)
			}
			if !bytes.Equal(whole, was) || mine != tab {
				t.Errorf("%d bytes, room for %d more: now %d", many, spare, whole)
			}
		}
	}
}

// The chapter's example.
func TestExample(t *testing.T) {
	if n := Sum(Table(), 0, []byte("123456789")); n != 3421780262 {
		t.Errorf("of 123456789: %d", n)
	}
}
