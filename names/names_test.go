package names

import (
	"math"
	"slices"
	"strconv"
	"strings"
	"testing"

	"fusebox/api"
)

// most is MaxNames and longest is MaxName, as the document says them, so that a wrong constant shows as well.
const (
	most    = 32
	longest = 24
)

// wrongNames may not be.
var wrongNames = []string{"", strings.Repeat("n", longest+1), strings.Repeat("n", longest+2), strings.Repeat("\x00", longest+1), strings.Repeat("é", 13), strings.Repeat("n", 1000)}

// goodNames may be, and no two are alike: they differ in their last byte, in their length, in case alone, or are bytes that are no text.
var goodNames = []string{
	"a", "b", "A", "aa", "ab", "aA", "aab", "a ", " a", " ", "\x00", "a\x00", "\x00a", "\n\"", "\xff", "\xfe", "\xff\xfe", "\ufffd",
	"é", "e\u0301", "0", "00", "1", "db", "Db", "DB",
	strings.Repeat("n", longest), strings.Repeat("n", longest-1), strings.Repeat("n", longest-1) + "N", strings.Repeat("n", longest-1) + "m",
	"N" + strings.Repeat("n", longest-1), strings.Repeat("\xff", longest),
}

// fresh is a name that is none of the others.
const fresh = "fresh"

// listOf so many names, no two alike.
func listOf(many int) []string {
	var l []string
	for k := range many {
		l = append(l, "n"+strconv.Itoa(k))
	}
	return l
}

// with a name at a place from 0 on, in a list that is new.
func with(l []string, k int, s string) []string {
	l = slices.Clone(l)
	l[k] = s
	return l
}

// wrongLists are not right, by each reason and by several at once.
func wrongLists() [][]string {
	wrongs := [][]string{
		listOf(most + 1), listOf(most + 2), listOf(1000),
		{"a", "a"}, {"a", "a", "b"}, {"a", "b", "a"}, {"b", "a", "a"}, {"a", "a", "a"},
		with(listOf(most), 31, "n0"), with(listOf(most), 31, "n30"), with(listOf(most), 1, "n0"),
		{"", ""}, {"a", "a", ""}, slices.Repeat([]string{"a"}, most+1), slices.Repeat([]string{""}, 40),
		with(listOf(most+1), 32, "n0"), with(listOf(most+1), 16, ""),
	}
	for _, s := range wrongNames {
		wrongs = append(wrongs, []string{s}, []string{s, "a"}, []string{"a", s}, with(listOf(most), 31, s))
	}
	return wrongs
}

// rightLists are right: of each length, and of each name that may be.
func rightLists() [][]string {
	rights := [][]string{nil, {}, goodNames, goodNames[:most-1]}
	for many := range most + 1 {
		rights = append(rights, listOf(many))
	}
	for _, s := range goodNames {
		rights = append(rights, []string{s})
	}
	return rights
}

// placeOf goes through the list itself.
func placeOf(l []string, s string) int {
	for k := range l {
		if l[k] == s {
			return k + 1
		}
	}
	return 0
}

// rightByHand holds each name against each other.
func rightByHand(l []string) bool {
	for k, s := range l {
		if len(s) < 1 || len(s) > longest || placeOf(l, s) != k+1 {
			return false
		}
	}
	return len(l) <= most
}

// putByHand says the error and the list that come.
func putByHand(l []string, s string) ([]string, api.Errno) {
	switch {
	case !rightByHand(l):
		return l, api.ErrArg
	case len(s) < 1 || len(s) > longest:
		return l, api.ErrName
	case placeOf(l, s) > 0:
		return l, api.ErrTwice
	case len(l) == most:
		return l, api.ErrMany
	}
	return slices.Concat(l, []string{s}), api.OK
}

// wantPut holds what Put answers against what should come.
func wantPut(t *testing.T, l []string, s string, want []string, err api.Errno) {
	t.Helper()
	if got, e := Put(l, s); e != err || !slices.Equal(got, want) {
		t.Errorf("%q put onto %d names %q: %d names %q and %d, want %d names and %d", s, len(l), l, len(got), got, e, len(want), err)
	}
}

// P6.1: lists of no, one and up to 32 names are right, longer ones are not.
func TestRightLengths(t *testing.T) {
	if !Right(nil) || !Right([]string{}) {
		t.Error("a list of no names")
	}
	for many := range 100 {
		if got := Right(listOf(many)); got != (many <= most) {
			t.Errorf("a list of %d names: %v", many, got)
		}
	}
	if Right(listOf(1 << 16)) {
		t.Error("a list of very many names")
	}
}

// P6.1: each name may be, wherever it stands.
func TestRightNames(t *testing.T) {
	if len(goodNames) != most || !Right(goodNames) {
		t.Errorf("%d names that may be and are not alike: %v", len(goodNames), Right(goodNames))
	}
	for _, many := range []int{1, 2, 3, 31, 32} {
		for k := range many {
			for _, s := range wrongNames {
				if Right(with(listOf(many), k, s)) {
					t.Errorf("%q at %d of %d names", s, k+1, many)
				}
			}
			for _, s := range goodNames {
				if !Right(with(listOf(many), k, s)) {
					t.Errorf("%q at %d of %d names is wrong", s, k+1, many)
				}
			}
		}
	}
}

// P6.1: names of each length, of whichever bytes.
func TestRightBytes(t *testing.T) {
	for many := range 60 {
		if got := Right([]string{strings.Repeat("n", many)}); got != (many >= 1 && many <= longest) {
			t.Errorf("a list of a name of %d bytes: %v", many, got)
		}
	}
	for b := range 256 {
		one := string([]byte{byte(b)})
		if !Right([]string{one, strings.Repeat(one, longest)}) || Right([]string{strings.Repeat(one, longest+1)}) {
			t.Errorf("names of the byte %d", b)
		}
		other := string([]byte{byte(b) ^ 1})
		if l := []string{one, other, "n" + one, "n" + other, one + "nn", other + "nn"}; !Right(l) {
			t.Errorf("names that differ in one byte: %q", l)
		}
	}
}

// P6.1: no two alike, wherever the two stand.
func TestRightTwice(t *testing.T) {
	for _, many := range []int{2, 3, 4, 16, 31, 32} {
		for j := range many {
			for k := range j {
				if l := listOf(many); Right(with(l, j, l[k])) {
					t.Errorf("places %d and %d of %d alike", k+1, j+1, many)
				}
			}
		}
	}
	for _, s := range goodNames {
		again := string(slices.Clone([]byte(s)))
		if Right([]string{s, again}) || Right([]string{"n", s, "m", again}) || Right([]string{s, again, again}) {
			t.Errorf("%q twice", s)
		}
	}
}

// P6.1: each list that is not right, by whichever reason.
func TestRightNot(t *testing.T) {
	for _, l := range wrongLists() {
		if Right(l) {
			t.Errorf("%d names %q", len(l), l)
		}
	}
	for _, l := range rightLists() {
		if !Right(l) {
			t.Errorf("%d names %q are wrong", len(l), l)
		}
	}
}

// P6.1: the place of each name that is there, and of none that isn't, in lists that are right and that are not.
func TestPlace(t *testing.T) {
	asked := append(append(listOf(40), goodNames...), wrongNames...)
	for _, l := range append(rightLists(), wrongLists()...) {
		for _, s := range asked {
			if got, want := Place(l, s), placeOf(l, s); got != want {
				t.Errorf("the place of %q in %d names %q: %d, want %d", s, len(l), l, got, want)
			}
		}
	}
}

// P6.1: places by hand: the first one counts, also of what may not be a name and of lists that are too long.
func TestPlaceByHand(t *testing.T) {
	long := strings.Repeat("n", longest+1)
	for _, x := range []struct {
		l    []string
		s    string
		want int
	}{
		{nil, "a", 0}, {nil, "", 0}, {[]string{}, "", 0},
		{[]string{"a"}, "a", 1}, {[]string{"a"}, "A", 0}, {[]string{"a"}, "", 0}, {[]string{"a"}, "aa", 0}, {[]string{"aa"}, "a", 0},
		{[]string{"a", "b"}, "b", 2}, {[]string{"a", "b"}, "c", 0},
		{[]string{"a", "a"}, "a", 1}, {[]string{"b", "a", "a"}, "a", 2}, {[]string{"a", "b", "a"}, "a", 1}, {[]string{"b", "a", "c", "a", "a"}, "a", 2},
		{[]string{""}, "", 1}, {[]string{"a", ""}, "", 2}, {[]string{"a", "", "b", ""}, "", 2}, {[]string{"", "a"}, "a", 2},
		{[]string{long, "a", long}, long, 1}, {[]string{"a", long}, long, 2}, {[]string{"a", long}, long[:longest], 0},
		{[]string{"\xff", "\xfe"}, "\xfe", 2}, {[]string{"\xff"}, "\ufffd", 0}, {[]string{"é"}, "e\u0301", 0},
		{listOf(most), "n31", 32}, {listOf(most), "n32", 0}, {listOf(most + 1), "n32", 33}, {listOf(1 << 16), "n65535", 1 << 16},
		{append(listOf(1000), "n999", "n0"), "n999", 1000}, {append(listOf(1000), "n999", "n0"), "n0", 1},
	} {
		if got := Place(x.l, x.s); got != x.want {
			t.Errorf("the place of %q in %d names: %d, want %d", x.s, len(x.l), got, x.want)
		}
	}
}

// P6.1: the name at each place, of any list.
func TestAt(t *testing.T) {
	for _, l := range append(rightLists(), wrongLists()...) {
		for k, want := range l {
			if s, err := At(l, k+1); s != want || err != api.OK {
				t.Errorf("at %d of %d names: %q and %d, want %q", k+1, len(l), s, err, want)
			}
		}
	}
}

// P6.1: where there is no place there is no name.
func TestAtNone(t *testing.T) {
	for _, l := range append(rightLists(), wrongLists()...) {
		for _, place := range []int{
			math.MinInt, math.MinInt + 1, math.MinInt32, -1 << 32, 1 - 1<<32, -256, -len(l) - 1, -len(l), -2, -1, 0,
			len(l) + 1, len(l) + 2, len(l) + 256, len(l) + 1<<16, len(l) + 1<<32, 1<<32 + 1, 1 << 31, math.MaxInt32, math.MaxInt - 1, math.MaxInt,
		} {
			if place > 0 && place <= len(l) {
				continue
			}
			if s, err := At(l, place); s != "" || err != api.ErrNone {
				t.Errorf("at %d of %d names: %q and %d", place, len(l), s, err)
			}
		}
	}
}

// P6.1: what stands in a list's spare room is not in it.
func TestSpareIsNotThere(t *testing.T) {
	room := []string{"a", "b", "c", "a"}
	for many := range len(room) {
		l := room[:many]
		for k, s := range room[many:] {
			if got := Place(l, s); got > many || got != placeOf(l, s) {
				t.Errorf("the place of %q in %q: %d", s, l, got)
			}
			if name, err := At(l, many+k+1); name != "" || err != api.ErrNone {
				t.Errorf("at %d of %q: %q and %d", many+k+1, l, name, err)
			}
		}
		if !Right(l) {
			t.Errorf("%q is wrong", l)
		}
	}
	if Right(room) {
		t.Errorf("%q is right", room)
	}
}

// P6.2: a new name stands behind the others, up to 32 of them.
func TestPut(t *testing.T) {
	wantPut(t, nil, "a", []string{"a"}, api.OK)
	wantPut(t, []string{}, "a", []string{"a"}, api.OK)
	wantPut(t, []string{"a"}, "b", []string{"a", "b"}, api.OK)
	wantPut(t, []string{"b"}, "a", []string{"b", "a"}, api.OK)
	wantPut(t, []string{"a"}, "A", []string{"a", "A"}, api.OK)
	wantPut(t, []string{"a"}, "aa", []string{"a", "aa"}, api.OK)
	wantPut(t, []string{"aa"}, "a", []string{"aa", "a"}, api.OK)
	wantPut(t, []string{"ab"}, "aa", []string{"ab", "aa"}, api.OK)
	for many := range most {
		wantPut(t, listOf(many), fresh, append(listOf(many), fresh), api.OK)
	}
	for _, s := range goodNames {
		wantPut(t, nil, s, []string{s}, api.OK)
		wantPut(t, listOf(31), s, append(listOf(31), s), api.OK)
	}
	for b := range 256 {
		one := string([]byte{byte(b)})
		wantPut(t, []string{"db"}, one, []string{"db", one}, api.OK)
		wantPut(t, []string{"db"}, strings.Repeat(one, longest), []string{"db", strings.Repeat(one, longest)}, api.OK)
		wantPut(t, []string{"db"}, strings.Repeat(one, longest+1), []string{"db"}, api.ErrName)
	}
}

// P6.2: a list that isn't right, by each reason, takes no name of whatever kind.
func TestPutArg(t *testing.T) {
	for _, l := range wrongLists() {
		for _, s := range append([]string{fresh, "a", "n0", "n31"}, wrongNames...) {
			wantPut(t, l, s, l, api.ErrArg)
		}
	}
}

// P6.2: a name that may not be is refused by lists of all lengths.
func TestPutName(t *testing.T) {
	for _, l := range rightLists() {
		for _, s := range wrongNames {
			wantPut(t, l, s, l, api.ErrName)
		}
	}
}

// P6.2: a name that is there, at whichever place, is refused, also where there is no room.
func TestPutTwice(t *testing.T) {
	for _, l := range rightLists() {
		for _, s := range l {
			wantPut(t, l, string(slices.Clone([]byte(s))), l, api.ErrTwice)
		}
	}
}

// P6.2: 32 names take no other.
func TestPutMany(t *testing.T) {
	for _, s := range append([]string{fresh, "n32", "N0", "n"}, goodNames...) {
		wantPut(t, listOf(most), s, listOf(most), api.ErrMany)
	}
	wantPut(t, goodNames, fresh, goodNames, api.ErrMany)
}

// P6.2: the four errors one by one, each beside all that are told behind it.
func TestPutOrder(t *testing.T) {
	full := listOf(most)
	for _, x := range []struct {
		l   []string
		s   string
		err api.Errno
	}{
		{append(listOf(most), fresh), "", api.ErrArg},
		{append(listOf(most), fresh), "n0", api.ErrArg},
		{append(listOf(most), fresh), "other", api.ErrArg},
		{with(full, 9, "n0"), "n0", api.ErrArg},
		{with(full, 9, "n0"), "", api.ErrArg},
		{with(full, 9, ""), "", api.ErrArg},
		{with(full, 9, strings.Repeat("n", 25)), strings.Repeat("n", 25), api.ErrArg},
		{full, "", api.ErrName},
		{full, strings.Repeat("n", 25), api.ErrName},
		{full, "n31", api.ErrTwice},
		{full, "n0", api.ErrTwice},
		{full, fresh, api.ErrMany},
		{full[:31], "n31", api.OK},
	} {
		want := x.l
		if x.err == api.OK {
			want = slices.Concat(x.l, []string{x.s})
		}
		wantPut(t, x.l, x.s, want, x.err)
	}
}

// P6.1, P6.2: all lists of up to five of a few names, right or not, with each of these names.
func TestShortLists(t *testing.T) {
	few := []string{"", "a", "b", "A", strings.Repeat("n", longest+1)}
	var grow func(l []string)
	grow = func(l []string) {
		if got, want := Right(l), rightByHand(l); got != want {
			t.Fatalf("%q: %v", l, got)
		}
		for _, s := range few {
			if got, want := Place(l, s), placeOf(l, s); got != want {
				t.Fatalf("the place of %q in %q: %d, want %d", s, l, got, want)
			}
			want, err := putByHand(l, s)
			wantPut(t, l, s, want, err)
		}
		if len(l) == 5 {
			return
		}
		for _, s := range few {
			grow(slices.Concat(l, []string{s}))
		}
	}
	grow(nil)
}

// P6.2 and rule 3: the list that is handed in stays as it was, its spare room too, whatever comes of it.
func TestPutLeaves(t *testing.T) {
	for _, x := range []struct {
		l   []string
		s   string
		err api.Errno
	}{
		{nil, "a", api.OK}, {listOf(1), fresh, api.OK}, {listOf(5), fresh, api.OK}, {listOf(31), fresh, api.OK},
		{listOf(most), fresh, api.ErrMany}, {listOf(3), "n1", api.ErrTwice}, {listOf(3), "", api.ErrName},
		{[]string{"a", "a"}, "b", api.ErrArg}, {[]string{""}, "", api.ErrArg}, {listOf(most + 1), fresh, api.ErrArg},
	} {
		for spare := range 5 {
			room := slices.Concat(x.l, listOf(9)[5:5+spare])
			was := slices.Clone(room)
			l := room[:len(x.l)]
			got, err := Put(l, x.s)
			if err != x.err {
				t.Errorf("%q put onto %d names with room for %d: %d", x.s, len(l), spare, err)
			}
			if !slices.Equal(room, was) {
				t.Errorf("%q put onto %d names: these and their room are %q, were %q", x.s, len(l), room, was)
			}
			for k := range got {
				got[k] = "changed"
			}
			if !slices.Equal(room, was) {
				t.Errorf("%q put onto %d names: the answer's names are those that were handed in", x.s, len(l))
			}
		}
	}
}

// P6.2 and rule 3: nothing of the list is kept: two answers of one list, and those that go on from one of them, don't hang together.
func TestPutNew(t *testing.T) {
	for many := range most - 1 {
		room := append(listOf(many), "x", "y", "z")
		l := room[:many]
		one, _ := Put(l, "one")
		other, _ := Put(l, "other")
		further, _ := Put(one, "further")
		again, _ := Put(one, "again")
		for k := range room {
			room[k] = "changed"
		}
		for _, x := range []struct{ got, want []string }{
			{one, append(listOf(many), "one")},
			{other, append(listOf(many), "other")},
			{further, append(listOf(many), "one", "further")},
			{again, append(listOf(many), "one", "again")},
		} {
			if !slices.Equal(x.got, x.want) {
				t.Errorf("behind %d names: %q, want %q", many, x.got, x.want)
			}
		}
	}
}

// P6.3: a right list stays so, whatever is put onto it, and who has a place keeps it.
func TestStaysRight(t *testing.T) {
	var l []string
	for round, s := range slices.Concat(wrongNames, goodNames, listOf(40), goodNames, wrongNames) {
		was := slices.Clone(l)
		next, err := Put(l, s)
		if !Right(next) {
			t.Fatalf("in round %d, behind %q: %q is not right", round, s, next)
		}
		for k, name := range was {
			if at, e := At(next, k+1); at != name || e != api.OK || Place(next, name) != k+1 {
				t.Fatalf("in round %d: %q was at %d", round, name, k+1)
			}
		}
		grown := 0
		if err == api.OK {
			grown = 1
			if Place(next, s) != len(was)+1 {
				t.Fatalf("in round %d: %q is at %d", round, s, Place(next, s))
			}
		}
		if len(next) != len(was)+grown {
			t.Fatalf("in round %d: %d names, were %d", round, len(next), len(was))
		}
		l = next
	}
	if len(l) != most {
		t.Errorf("in the end %d names", len(l))
	}
}

// P6.3: each list that takes a name is right with it, from each right list.
func TestEachRightListStaysSo(t *testing.T) {
	for _, l := range rightLists() {
		for _, s := range slices.Concat(goodNames, wrongNames, []string{fresh, "n0", "n31"}) {
			next, err := Put(l, s)
			if !Right(next) || !slices.Equal(next[:len(l)], l) {
				t.Errorf("%q put onto %q: %q", s, l, next)
			}
			if err == api.OK && Place(next, s) != len(l)+1 {
				t.Errorf("%q put onto %q is at %d", s, l, Place(next, s))
			}
		}
	}
}

// The chapter's example.
func TestExample(t *testing.T) {
	l, err := Put([]string{"a"}, "b")
	if err != api.OK || Place(l, "b") != 2 || Place(l, "a") != 1 {
		t.Errorf("a, b: %q and %d", l, err)
	}
	if s, err := At(l, 2); s != "b" || err != api.OK {
		t.Errorf("at 2 of a, b: %q and %d", s, err)
	}
}
