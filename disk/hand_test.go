package disk

import (
	"bytes"
	"maps"
	"math"
	"regexp"
	"slices"
	"strconv"
	"strings"
	"testing"

	"fusebox/api"
)

// The limits as the document says them, so that a wrong constant shows as well.
const (
	mostFiles = 64
	mostRoom  = 65536
	longest   = 16
	unbound   = -1
)

// nameForm is what a name must be.
var nameForm = regexp.MustCompile(`\A[a-z0-9.]{1,16}\z`)

// wrongNames may not be: none, too long ones, and each kind of byte that no name has.
var wrongNames = []string{"", strings.Repeat("n", longest+1), strings.Repeat(".", longest+2), strings.Repeat("n", 100000), "A", "Z", "tmP", "a b", " a", "a ", "a/b", "a-b", "a_b", "é", "\x00", "a\x00", "\xff", "a\n", "\n", "..a:", "`", "{", "@", "[", strings.Repeat("n", longest-1) + "N", "seg.0000000١"}

// goodNames may be.
var goodNames = []string{"a", "z", "0", "9", ".", "..", "a.", ".a", "0a", "tmp", "seg.00000007", "snap.0000000009", strings.Repeat("n", longest), strings.Repeat(".", longest), strings.Repeat("z", longest), "abcdefghijklmnop", "qrstuvwxyz012345", "6789."}

// file with bytes that last, and others.
func file(name, sure, loose string) api.File {
	return api.File{Name: name, Sure: []byte(sure), Loose: []byte(loose)}
}

// diskOf files, with so much room, and power without a bound.
func diskOf(room int, l ...api.File) api.Disk {
	return api.Disk{Files: l, Room: room, Steps: unbound}
}

// filesOf as many as are asked for, each with a byte that lasts and another one.
func filesOf(many int) []api.File {
	var l []api.File
	for k := range many {
		l = append(l, file("f"+strconv.Itoa(100+k), "s", "l"))
	}
	return l
}

// three files, of which the middle one's bytes last in part.
func three(room int) api.Disk {
	return diskOf(room, file("b", "B", ""), file("m", "12345", "678"), file("x.1", "", "xy"))
}

// rightDisks are right, each with power without a bound.
func rightDisks() []api.Disk {
	full := diskOf(mostRoom, file("a", strings.Repeat("a", mostRoom-3), "bc"), file("b", "d", ""))
	return []api.Disk{
		diskOf(0), diskOf(mostRoom), {Files: []api.File{}, Room: 5, Steps: unbound},
		diskOf(0, file("m", "", "")), diskOf(1, file("m", "", "")), diskOf(3, file("m", "123", "")), diskOf(3, file("m", "", "123")), diskOf(9, file("m", "12", "345")), diskOf(5, file("m", "12", "345")),
		three(11), three(12), three(mostRoom),
		diskOf(9, file("b", "", ""), file("m", "", "")), diskOf(9, file(".", "1", "2"), file("0", "3", "4"), file("m", "5", "6"), file("mm", "7", "8")),
		diskOf(65, filesOf(mostFiles/2)...), diskOf(127, filesOf(mostFiles-1)...), diskOf(128, filesOf(mostFiles)...), diskOf(mostRoom, filesOf(mostFiles)...),
		full,
	}
}

// powers of right disks: as many steps as there may be, and whether there is power at all.
func powers(d api.Disk) []api.Disk {
	var l []api.Disk
	for _, steps := range []int{unbound, 0, 1, 2, 1000, math.MaxInt} {
		for _, down := range []bool{false, true} {
			d.Steps, d.Down = steps, down
			l = append(l, d)
		}
	}
	return l
}

// wrongDisks are not right, by each reason and by several at once.
func wrongDisks() []api.Disk {
	l := []api.Disk{
		diskOf(130, filesOf(mostFiles+1)...), diskOf(mostRoom, filesOf(200)...),
		diskOf(9, file("m", "1", ""), file("b", "2", "")), diskOf(9, file("m", "1", ""), file("m", "2", "")), diskOf(9, file("b", "", ""), file("m", "", ""), file("m", "", "")), diskOf(9, file("b", "", ""), file("x", "", ""), file("m", "", "")), diskOf(9, file("mm", "", ""), file("m", "", "")),
		diskOf(-1), diskOf(math.MinInt), diskOf(mostRoom + 1), diskOf(math.MaxInt), diskOf(mostRoom+1, file("m", "1", "2")),
		diskOf(10, three(0).Files...), diskOf(2, file("m", "123", "")), diskOf(2, file("m", "", "123")), diskOf(2, file("m", "12", "3")), diskOf(0, file("m", "", "1")), diskOf(127, filesOf(mostFiles)...),
		diskOf(mostRoom, file("m", strings.Repeat("a", mostRoom), "b")), diskOf(mostRoom, file("m", strings.Repeat("a", mostRoom/2), strings.Repeat("b", mostRoom/2)), file("n", "", "c")),
		{Steps: -2}, {Room: 9, Steps: math.MinInt}, {Files: three(0).Files, Room: 11, Steps: -2},
		{Files: []api.File{file("", "123", "456"), file("", "789", "")}, Room: -1, Steps: -2, Down: true},
	}
	for _, s := range wrongNames {
		l = append(l, diskOf(99, file(s, "1", "2")), diskOf(99, file(s, "", ""), file("zzzz", "", "")), diskOf(99, file("...", "", ""), file(s, "", "")))
	}
	for _, d := range slices.Clone(l) {
		d.Down = true
		l = append(l, d)
	}
	return l
}

// rightByHand says it by the chapter's words.
func rightByHand(d api.Disk) bool {
	used := 0
	for k, f := range d.Files {
		used += len(f.Sure) + len(f.Loose)
		if !nameForm.MatchString(f.Name) || k > 0 && strings.Compare(f.Name, d.Files[k-1].Name) != 1 {
			return false
		}
	}
	return len(d.Files) <= mostFiles && d.Room >= 0 && d.Room <= mostRoom && used <= d.Room && d.Steps >= -1
}

// act is a call of an operation.
type act struct {
	kind     string
	name, to string
	b        string
	n        int
}

// do the act by the package.
func (a act) do(d api.Disk) (api.Disk, api.Errno) {
	switch a.kind {
	case "create":
		return Create(d, a.name)
	case "append":
		return Append(d, a.name, []byte(a.b))
	case "sync":
		return Sync(d, a.name)
	case "rename":
		return Rename(d, a.name, a.to)
	case "remove":
		return Remove(d, a.name)
	}
	return Cut(d, a.name, a.n)
}

// bits of a file by hand: all of them, and how many last.
type bits struct {
	all  string
	sure int
}

// byHand is what comes of an act on a disk.
func byHand(d api.Disk, a act) (api.Disk, api.Errno) {
	switch {
	case !rightByHand(d):
		return d, api.ErrArg
	case d.Down:
		return d, api.ErrDown
	case !nameForm.MatchString(a.name), a.kind == "rename" && !nameForm.MatchString(a.to):
		return d, api.ErrArg
	}
	m := map[string]bits{}
	used := 0
	for _, f := range d.Files {
		m[f.Name] = bits{string(f.Sure) + string(f.Loose), len(f.Sure)}
		used += len(m[f.Name].all)
	}
	if err := done(m, a, d.Room-used); err != api.OK {
		return d, err
	}
	if d.Steps != 0 || a.kind == "append" {
		d.Files = listed(m)
	}
	if d.Steps == 0 {
		d.Down = true
		return d, api.ErrDown
	}
	if d.Steps > 0 {
		d.Steps--
	}
	return d, api.OK
}

// done by hand with files by their names.
func done(m map[string]bits, a act, spare int) api.Errno {
	f, there := m[a.name]
	if a.kind == "create" {
		if there {
			return api.ErrTwice
		}
		if len(m) == mostFiles {
			return api.ErrFull
		}
		m[a.name] = bits{}
		return api.OK
	}
	if !there {
		return api.ErrNone
	}
	switch a.kind {
	case "append":
		if len(a.b) > spare {
			return api.ErrFull
		}
		f.all += a.b
	case "sync":
		f.sure = len(f.all)
	case "cut":
		if a.n < 0 || a.n > len(f.all) {
			return api.ErrArg
		}
		f.all = f.all[:a.n]
		if f.sure > a.n {
			f.sure = a.n
		}
	}
	delete(m, a.name)
	switch a.kind {
	case "remove":
	case "rename":
		m[a.to] = f
	default:
		m[a.name] = f
	}
	return api.OK
}

// listed files, by their names.
func listed(m map[string]bits) []api.File {
	var l []api.File
	for _, s := range slices.Sorted(maps.Keys(m)) {
		l = append(l, file(s, m[s].all[:m[s].sure], m[s].all[m[s].sure:]))
	}
	return l
}

// same: are both the same? A list is nil or empty alike.
func same(a, b api.Disk) bool {
	return a.Room == b.Room && a.Steps == b.Steps && a.Down == b.Down && slices.EqualFunc(a.Files, b.Files, func(x, y api.File) bool {
		return x.Name == y.Name && bytes.Equal(x.Sure, y.Sure) && bytes.Equal(x.Loose, y.Loose)
	})
}

// roomy disk: the same, with spare room behind its files and behind all bytes; those that last have the others in their spare room.
func roomy(d api.Disk) api.Disk {
	l := make([]api.File, 0, len(d.Files)+3)
	for _, f := range d.Files {
		b := slices.Concat(f.Sure, f.Loose, []byte("spare"))
		sure, all := len(f.Sure), len(f.Sure)+len(f.Loose)
		l = append(l, api.File{Name: f.Name, Sure: b[:sure], Loose: b[sure:all]})
	}
	l = append(l, file("spare1", "s1", "l1"), file("spare2", "s2", "l2"), file("spare3", "s3", "l3"))
	d.Files = l[:len(d.Files)]
	return d
}

// wantUntouched asks for a roomy disk to be just what it was made of, its spare room too.
func wantUntouched(t *testing.T, what string, roomy, of api.Disk) {
	t.Helper()
	if !same(roomy, of) {
		t.Errorf("%s: the disk that was handed in became %s", what, told(roomy))
	}
	for _, f := range roomy.Files {
		many := len(f.Sure) + len(f.Loose)
		if b := f.Sure[:many+5]; !bytes.Equal(b[:many], slices.Concat(f.Sure, f.Loose)) || string(b[many:]) != "spare" {
			t.Errorf("%s: the spare room of %s became %q", what, f.Name, b)
		}
	}
	many := len(roomy.Files)
	for k, f := range roomy.Files[many : many+3] {
		s := strconv.Itoa(k + 1)
		if f.Name != "spare"+s || string(f.Sure) != "s"+s || string(f.Loose) != "l"+s {
			t.Errorf("%s: the spare room of the files became %v", what, f)
		}
	}
}

// scribble all over a disk that was answered, and over its spare room, part by part: no part is another one's.
func scribble(t *testing.T, what string, d api.Disk) {
	t.Helper()
	for k, f := range d.Files {
		loose := slices.Clone(f.Loose)
		_ = append(f.Sure, '!')
		if !bytes.Equal(loose, f.Loose) {
			t.Errorf("%s: what lasts of %s grew into its other bytes", what, f.Name)
		}
		for _, b := range [][]byte{f.Sure, f.Loose} {
			b = b[:cap(b)]
			for at := range b {
				b[at] = '?'
			}
		}
		if !bytes.Equal(f.Sure, bytes.Repeat([]byte("?"), len(f.Sure))) {
			t.Errorf("%s: two parts of %s are one", what, f.Name)
		}
		d.Files[k] = file("scribbled", "over", "it")
	}
	l := d.Files[:cap(d.Files)]
	for k := range l {
		l[k].Name = "scribbled"
	}
}

// wantDisk asks for what a call answers of a disk, and for that disk, its bytes and its spare room to stay, whatever becomes of the answer.
func wantDisk(t *testing.T, what string, d api.Disk, call func(api.Disk) (api.Disk, api.Errno), want api.Disk, err api.Errno) {
	t.Helper()
	given := roomy(d)
	got, e := call(given)
	if e != err || !same(got, want) {
		t.Errorf("%s of %s: %s and %d, want %s and %d", what, told(d), told(got), e, told(want), err)
	}
	wantUntouched(t, what, given, d)
	scribble(t, what, got)
	wantUntouched(t, what, given, d)
}

// told disk, for a test that fails.
func told(d api.Disk) string {
	var b strings.Builder
	for k, f := range d.Files {
		if k == 6 {
			b.WriteString("and others, in all " + strconv.Itoa(len(d.Files)) + " ")
			break
		}
		b.WriteString(strconv.Quote(short(f.Name)) + ":" + short(string(f.Sure)) + "|" + short(string(f.Loose)) + " ")
	}
	return "{" + b.String() + "room " + strconv.Itoa(d.Room) + " steps " + strconv.Itoa(d.Steps) + " down " + strconv.FormatBool(d.Down) + "}"
}

// short text of a long one.
func short(s string) string {
	if len(s) > 20 {
		return s[:17] + "..(" + strconv.Itoa(len(s)) + ")"
	}
	return s
}

// namesFor a test on a disk: some of those that are there, some ahead of, between and behind them, and some that may not be.
func namesFor(d api.Disk) []string {
	l := []string{".", "0", "a", "b1", "c", "m", "mm", "n", "zz", strings.Repeat("n", longest), "", strings.Repeat("n", longest+1), "M", "a b", "é", "\xff"}
	for k, f := range d.Files {
		if k < 3 || k == len(d.Files)-1 || k == len(d.Files)/2 {
			l = append(l, f.Name)
		}
	}
	return l
}

// actsFor a disk: each operation with each name to try.
func actsFor(d api.Disk) []act {
	var l []act
	spare := d.Room
	for _, f := range d.Files {
		spare -= len(f.Sure) + len(f.Loose)
	}
	for _, s := range namesFor(d) {
		l = append(l, act{kind: "create", name: s}, act{kind: "sync", name: s}, act{kind: "remove", name: s})
		for _, to := range namesFor(d) {
			l = append(l, act{kind: "rename", name: s, to: to})
		}
		for _, many := range []int{0, 1, spare - 1, spare, spare + 1, mostRoom + 1} {
			if many >= 0 && many <= mostRoom+1 {
				l = append(l, act{kind: "append", name: s, b: strings.Repeat("+", many)})
			}
		}
		for _, n := range []int{math.MinInt, -1, 0, 1, 2, 3, 4, 5, 6, 7, 8, 9, mostRoom - 1, mostRoom, mostRoom + 1, math.MaxInt} {
			l = append(l, act{kind: "cut", name: s, n: n})
		}
	}
	return l
}
