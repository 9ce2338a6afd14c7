package disk

import (
	"bytes"
	"math"
	"slices"
	"strconv"
	"strings"
	"testing"

	"fusebox/api"
)

// wantRight asks whether a disk is right, with and without power.
func wantRight(t *testing.T, d api.Disk, want bool) {
	t.Helper()
	for _, down := range []bool{false, true} {
		d.Down = down
		given := roomy(d)
		if got := Right(given); got != want || rightByHand(d) != want {
			t.Errorf("%s is right: %v, want %v", told(d), got, want)
		}
		wantUntouched(t, "Right", given, d)
	}
}

// P10.1: names of each byte, alone and as the first, a middle and the last one of others.
func TestRightNameBytes(t *testing.T) {
	for x := range 256 {
		s := string([]byte{byte(x)})
		want := strings.Contains("abcdefghijklmnopqrstuvwxyz0123456789.", s)
		for _, name := range []string{s, s + "ab", "a" + s + "b", "ab" + s, strings.Repeat("n", longest-1) + s, s + strings.Repeat("n", longest-1), strings.Repeat(s, longest)} {
			wantRight(t, diskOf(9, file(name, "", "")), want)
		}
	}
}

// P10.1: names of each length.
func TestRightNameLengths(t *testing.T) {
	for many := range 40 {
		for _, s := range []string{"a", "z", "0", "."} {
			wantRight(t, diskOf(9, file(strings.Repeat(s, many), "1", "2")), many >= 1 && many <= 16)
		}
	}
	for _, s := range goodNames {
		wantRight(t, diskOf(9, file(s, "1", "2")), true)
	}
	for _, s := range wrongNames {
		wantRight(t, diskOf(9, file(s, "1", "2")), false)
		wantRight(t, diskOf(9, file(".", "", ""), file(s, "1", "2")), false)
		wantRight(t, diskOf(9, file(s, "1", "2"), file("zzz", "", "")), false)
	}
}

// P10.1: as many files as there may be, and one more.
func TestRightManyFiles(t *testing.T) {
	for _, many := range []int{0, 1, 2, 63, 64, 65, 66, 128, 1000} {
		wantRight(t, diskOf(mostRoom, filesOf(many)...), many <= 64)
	}
	wantRight(t, api.Disk{}, true)
	wantRight(t, diskOf(0, make([]api.File, 100000)...), false)
}

// P10.1: names rise byte by byte, and no two are alike.
func TestRightOrder(t *testing.T) {
	for _, l := range [][]string{{"a", "b"}, {".", "0"}, {"9", "a"}, {"a", "aa"}, {"a.", "a0"}, {"a.z", "a0"}, {"10", "9"}, {"az", "b"}, {"abcdefghijklmno", "abcdefghijklmnop"}} {
		up, down := []api.File{file(l[0], "", ""), file(l[1], "", "")}, []api.File{file(l[1], "", ""), file(l[0], "", "")}
		wantRight(t, diskOf(0, up...), true)
		wantRight(t, diskOf(0, down...), false)
		wantRight(t, diskOf(0, up[0], up[0]), false)
		wantRight(t, diskOf(0, up[0], up[1], up[1]), false)
		wantRight(t, diskOf(0, up[0], up[1], up[0]), false)
	}
	for k := 1; k < mostFiles; k++ {
		l := filesOf(mostFiles)
		l[k].Name = l[k-1].Name
		wantRight(t, diskOf(mostRoom, l...), false)
		l = filesOf(mostFiles)
		l[k], l[k-1] = l[k-1], l[k]
		wantRight(t, diskOf(mostRoom, l...), false)
	}
}

// P10.1: Room is within its bounds, and all bytes, those that last and others, are within it.
func TestRightRoom(t *testing.T) {
	for _, room := range []int{math.MinInt, -65536, -2, -1, 0, 1, 65535, 65536, 65537, 131072, math.MaxInt} {
		wantRight(t, diskOf(room), room >= 0 && room <= 65536)
	}
	for room := range 20 {
		wantRight(t, three(room), room >= 11)
		wantRight(t, diskOf(room, file("a", "12345", "")), room >= 5)
		wantRight(t, diskOf(room, file("a", "", "12345")), room >= 5)
		wantRight(t, diskOf(room, file("a", "12", ""), file("b", "", "345")), room >= 5)
	}
	half, most := strings.Repeat("h", mostRoom/2), strings.Repeat("m", mostRoom)
	wantRight(t, diskOf(mostRoom, file("a", most, "")), true)
	wantRight(t, diskOf(mostRoom, file("a", half, half)), true)
	wantRight(t, diskOf(mostRoom, file("a", half, ""), file("b", "", half)), true)
	wantRight(t, diskOf(mostRoom, file("a", most, "1")), false)
	wantRight(t, diskOf(mostRoom, file("a", half, half), file("b", "1", "")), false)
	wantRight(t, diskOf(mostRoom+1, file("a", most, "1")), false)
}

// P10.1: Steps are from None on.
func TestRightSteps(t *testing.T) {
	for _, steps := range []int{math.MinInt, -1000, -3, -2, -1, 0, 1, 2, 1000, math.MaxInt} {
		d := three(11)
		d.Steps = steps
		wantRight(t, d, steps >= -1)
		wantRight(t, api.Disk{Steps: steps}, steps >= -1)
	}
}

// P10.1: disks that are right, and those that aren't, by each reason.
func TestRight(t *testing.T) {
	for _, d := range rightDisks() {
		for _, x := range powers(d) {
			wantRight(t, x, true)
		}
	}
	for _, d := range wrongDisks() {
		wantRight(t, d, false)
	}
}

// P10.1: Used and List of any disk, in the order of its files.
func TestUsedAndList(t *testing.T) {
	for _, c := range []struct {
		d    api.Disk
		used int
		list string
	}{
		{api.Disk{}, 0, ""},
		{three(11), 11, "b m x.1"},
		{api.Disk{Files: three(11).Files, Steps: -2, Down: true}, 11, "b m x.1"},
		{diskOf(-1, file("z", "123", ""), file("", "", "45"), file("Z", "6", "7"), file("z", "", "")), 7, "z  Z z"},
		{diskOf(0, file("b", strings.Repeat("1", 100000), "2"), file("a", "", strings.Repeat("3", 100000))), 200001, "b a"},
	} {
		given := roomy(c.d)
		if got := Used(given); got != c.used {
			t.Errorf("%s uses %d, want %d", told(c.d), got, c.used)
		}
		if got := strings.Join(List(given), " "); got != c.list {
			t.Errorf("%s lists %q, want %q", told(c.d), got, c.list)
		}
		wantUntouched(t, "Used or List", given, c.d)
	}
}

// P10.1: Used and List of all disks, right or not, and the list is new.
func TestUsedAndListOfAll(t *testing.T) {
	for _, d := range slices.Concat(rightDisks(), wrongDisks()) {
		used := 0
		var names []string
		for _, f := range d.Files {
			used += len(f.Sure) + len(f.Loose)
			names = append(names, f.Name)
		}
		given := roomy(d)
		l := List(given)
		if Used(given) != used || !slices.Equal(l, names) {
			t.Errorf("%s uses %d, want %d; lists %q, want %q", told(d), Used(given), used, l, names)
		}
		for k := range l {
			l[k] = "scribbled"
		}
		wantUntouched(t, "Used or List", given, d)
	}
}

// wantRead asks for what Read answers, and for the disk to stay, whatever becomes of the bytes.
func wantRead(t *testing.T, d api.Disk, name, want string, err api.Errno) {
	t.Helper()
	given := roomy(d)
	b, e := Read(given, name)
	if string(b) != want || e != err || err != api.OK && len(b) != 0 {
		t.Errorf("%q of %s: %q and %d, want %q and %d", name, told(d), short(string(b)), e, short(want), err)
	}
	b = b[:cap(b)]
	for k := range b {
		b[k] = '?'
	}
	wantUntouched(t, "Read", given, d)
}

// P10.1: a file's bytes, those that last and others; none of one that isn't there. No step is taken.
func TestRead(t *testing.T) {
	for _, steps := range []int{unbound, 0, 1, 9} {
		d := three(11)
		d.Steps = steps
		wantRead(t, d, "b", "B", api.OK)
		wantRead(t, d, "m", "12345678", api.OK)
		wantRead(t, d, "x.1", "xy", api.OK)
		for _, s := range []string{"a", "c", "mm", "x.", "x.11", "z", ".", "0", "x"} {
			wantRead(t, d, s, "", api.ErrNone)
		}
	}
	wantRead(t, diskOf(0, file("m", "", "")), "m", "", api.OK)
	wantRead(t, api.Disk{}, "m", "", api.ErrNone)
}

// P10.1: Read's errors, the first of those that apply.
func TestReadErrors(t *testing.T) {
	for _, d := range rightDisks() {
		for _, x := range powers(d) {
			for _, s := range slices.Concat(namesFor(d), wrongNames) {
				want, err := "", api.ErrNone
				switch k := slices.Index(List(d), s); {
				case x.Down:
					err = api.ErrDown
				case !nameForm.MatchString(s):
					err = api.ErrArg
				case k >= 0:
					want, err = string(d.Files[k].Sure)+string(d.Files[k].Loose), api.OK
				}
				wantRead(t, x, s, want, err)
			}
		}
	}
	for _, d := range wrongDisks() {
		for _, s := range []string{"m", "none", "", "A", "b", "f100"} {
			wantRead(t, d, s, "", api.ErrArg)
		}
	}
}

// P10.1: each file of many is read.
func TestReadEach(t *testing.T) {
	var l []api.File
	for k := range mostFiles {
		l = append(l, file("f"+strconv.Itoa(100+k), strings.Repeat("s", k), strconv.Itoa(k)))
	}
	for k, f := range l {
		wantRead(t, diskOf(mostRoom, l...), f.Name, strings.Repeat("s", k)+strconv.Itoa(k), api.OK)
	}
}

// P10.1: bytes are bytes, whichever.
func TestReadBytes(t *testing.T) {
	var b []byte
	for k := range 256 {
		b = append(b, byte(k))
	}
	d, err := Create(diskOf(512), "a")
	for range 2 {
		if err != api.OK {
			t.Fatal(err)
		}
		d, err = Append(d, "a", b)
	}
	got, e := Read(d, "a")
	if err != api.OK || e != api.OK || !bytes.Equal(got, slices.Concat(b, b)) {
		t.Errorf("%q, %d, %d", got, err, e)
	}
}
