package disk

import (
	"math"
	"strings"
	"testing"

	"fusebox/api"
)

// wantAct asks for files, of a disk with power without a bound.
func wantAct(t *testing.T, d api.Disk, a act, l ...api.File) {
	t.Helper()
	want := d
	want.Files = l
	wantDisk(t, a.kind, d, a.do, want, api.OK)
}

// wantRefused asks for an error, and for the disk as it is.
func wantRefused(t *testing.T, d api.Disk, a act, err api.Errno) {
	t.Helper()
	wantDisk(t, a.kind, d, a.do, d, err)
}

// P10.2: a file is there, ahead of, between and behind the others, without bytes.
func TestCreate(t *testing.T) {
	l := three(0).Files
	wantAct(t, three(11), act{kind: "create", name: "a"}, file("a", "", ""), l[0], l[1], l[2])
	wantAct(t, three(11), act{kind: "create", name: "c"}, l[0], file("c", "", ""), l[1], l[2])
	wantAct(t, three(11), act{kind: "create", name: "m0"}, l[0], l[1], file("m0", "", ""), l[2])
	wantAct(t, three(11), act{kind: "create", name: "x."}, l[0], l[1], file("x.", "", ""), l[2])
	wantAct(t, three(11), act{kind: "create", name: "x.10"}, l[0], l[1], l[2], file("x.10", "", ""))
	wantAct(t, diskOf(0), act{kind: "create", name: "a"}, file("a", "", ""))
	for _, s := range goodNames {
		wantAct(t, diskOf(0), act{kind: "create", name: s}, file(s, "", ""))
	}
}

// P10.2: one that is there, and one more than there may be.
func TestCreateErrors(t *testing.T) {
	for _, f := range three(0).Files {
		wantRefused(t, three(11), act{kind: "create", name: f.Name}, api.ErrTwice)
	}
	l := filesOf(mostFiles)
	wantRefused(t, diskOf(mostRoom, l...), act{kind: "create", name: "a"}, api.ErrFull)
	wantRefused(t, diskOf(mostRoom, l...), act{kind: "create", name: "z"}, api.ErrFull)
	wantRefused(t, diskOf(mostRoom, l...), act{kind: "create", name: "f100"}, api.ErrTwice)
	wantAct(t, diskOf(mostRoom, l[1:]...), act{kind: "create", name: "f100"}, append([]api.File{file("f100", "", "")}, l[1:]...)...)
}

// P10.2: bytes come behind a file's others, as many as there is room for.
func TestAppend(t *testing.T) {
	l := three(0).Files
	wantAct(t, three(13), act{kind: "append", name: "m", b: "9"}, l[0], file("m", "12345", "6789"), l[2])
	wantAct(t, three(13), act{kind: "append", name: "m", b: "90"}, l[0], file("m", "12345", "67890"), l[2])
	wantAct(t, three(13), act{kind: "append", name: "b", b: "CD"}, file("b", "B", "CD"), l[1], l[2])
	wantAct(t, three(13), act{kind: "append", name: "x.1", b: "z"}, l[0], l[1], file("x.1", "", "xyz"))
	wantRefused(t, three(13), act{kind: "append", name: "m", b: "901"}, api.ErrFull)
	wantRefused(t, three(13), act{kind: "append", name: "m", b: strings.Repeat("9", mostRoom)}, api.ErrFull)
	for _, s := range []string{"b", "m", "x.1"} {
		wantAct(t, three(11), act{kind: "append", name: s}, l...)
		wantRefused(t, three(11), act{kind: "append", name: s, b: "9"}, api.ErrFull)
	}
	wantRefused(t, three(13), act{kind: "append", name: "a", b: "9"}, api.ErrNone)
	wantRefused(t, three(13), act{kind: "append", name: "a", b: "901"}, api.ErrNone)
	wantRefused(t, three(13), act{kind: "append", name: "a"}, api.ErrNone)
	most := strings.Repeat("9", mostRoom)
	wantAct(t, diskOf(mostRoom, file("a", "", "")), act{kind: "append", name: "a", b: most}, file("a", "", most))
	wantRefused(t, diskOf(mostRoom, file("a", "", "")), act{kind: "append", name: "a", b: most + "9"}, api.ErrFull)
	wantRefused(t, diskOf(0, file("a", "", "")), act{kind: "append", name: "a", b: "9"}, api.ErrFull)
}

// P10.2: what is appended isn't kept, nor changed: it is a list of its own, with spare room behind it.
func TestAppendKeepsNothing(t *testing.T) {
	for _, f := range []api.File{file("a", "", ""), file("a", "12", ""), file("a", "", "34"), file("a", "12", "34")} {
		for _, steps := range []int{unbound, 0, 3} {
			d := diskOf(9, f)
			d.Steps = steps
			b := []byte("56spare")
			got, _ := Append(d, "a", b[:2])
			if string(b) != "56spare" {
				t.Errorf("what was handed in became %q", b)
			}
			copy(b, "scribbled")
			if x := got.Files[0]; string(x.Sure) != string(f.Sure) || string(x.Loose) != string(f.Loose)+"56" {
				t.Errorf("%v became %v", f, x)
			}
			_ = append(got.Files[0].Loose, "!!!!"...)
			if string(b) != "scribbl" {
				t.Errorf("what was handed in became %q", b)
			}
		}
	}
}

// P10.2: all of a file's bytes last; the others' are as they were.
func TestSync(t *testing.T) {
	l := three(0).Files
	wantAct(t, three(11), act{kind: "sync", name: "m"}, l[0], file("m", "12345678", ""), l[2])
	wantAct(t, three(11), act{kind: "sync", name: "x.1"}, l[0], l[1], file("x.1", "xy", ""))
	wantAct(t, three(11), act{kind: "sync", name: "b"}, l...)
	wantAct(t, diskOf(0, file("a", "", "")), act{kind: "sync", name: "a"}, file("a", "", ""))
	wantRefused(t, three(11), act{kind: "sync", name: "n"}, api.ErrNone)
	wantRefused(t, diskOf(0), act{kind: "sync", name: "n"}, api.ErrNone)
}

// P10.2: a file has another name, and its place; another one that had it is gone, and its own name is any other.
func TestRename(t *testing.T) {
	l := three(0).Files
	m := func(s string) api.File { return file(s, "12345", "678") }
	wantAct(t, three(11), act{kind: "rename", name: "m", to: "a"}, m("a"), l[0], l[2])
	wantAct(t, three(11), act{kind: "rename", name: "m", to: "c"}, l[0], m("c"), l[2])
	wantAct(t, three(11), act{kind: "rename", name: "m", to: "n"}, l[0], m("n"), l[2])
	wantAct(t, three(11), act{kind: "rename", name: "m", to: "z"}, l[0], l[2], m("z"))
	wantAct(t, three(11), act{kind: "rename", name: "m", to: "b"}, m("b"), l[2])
	wantAct(t, three(11), act{kind: "rename", name: "m", to: "x.1"}, l[0], m("x.1"))
	wantAct(t, three(11), act{kind: "rename", name: "m", to: "m"}, l...)
	wantAct(t, three(11), act{kind: "rename", name: "b", to: "x.1"}, l[1], file("x.1", "B", ""))
	wantAct(t, three(11), act{kind: "rename", name: "b", to: "z"}, l[1], l[2], file("z", "B", ""))
	wantAct(t, three(11), act{kind: "rename", name: "x.1", to: "b"}, file("b", "", "xy"), l[1])
	wantAct(t, three(11), act{kind: "rename", name: "x.1", to: "a"}, file("a", "", "xy"), l[0], l[1])
	wantAct(t, diskOf(0, file("a", "", "")), act{kind: "rename", name: "a", to: "a"}, file("a", "", ""))
	most := filesOf(mostFiles)
	wantAct(t, diskOf(mostRoom, most...), act{kind: "rename", name: "f100", to: "z"}, append(filesOf(mostFiles)[1:], file("z", "s", "l"))...)
	wantAct(t, diskOf(mostRoom, most...), act{kind: "rename", name: "f100", to: "f163"}, filesOf(mostFiles)[1:]...)
}

// P10.2: a file to be renamed that isn't there, and names that may not be, either of the two.
func TestRenameErrors(t *testing.T) {
	for _, to := range []string{"a", "b", "m", "x.1", "z", "n"} {
		wantRefused(t, three(11), act{kind: "rename", name: "n", to: to}, api.ErrNone)
	}
	for _, s := range wrongNames {
		for _, other := range []string{"m", "n", s, ""} {
			wantRefused(t, three(11), act{kind: "rename", name: s, to: other}, api.ErrArg)
			wantRefused(t, three(11), act{kind: "rename", name: other, to: s}, api.ErrArg)
		}
	}
}

// P10.2: the first, a middle and the last file are gone, each with all its bytes.
func TestRemove(t *testing.T) {
	l := three(0).Files
	wantAct(t, three(11), act{kind: "remove", name: "b"}, l[1], l[2])
	wantAct(t, three(11), act{kind: "remove", name: "m"}, l[0], l[2])
	wantAct(t, three(11), act{kind: "remove", name: "x.1"}, l[0], l[1])
	wantAct(t, diskOf(0, file("a", "", "")), act{kind: "remove", name: "a"})
	for _, s := range []string{"a", "c", "n", "z"} {
		wantRefused(t, three(11), act{kind: "remove", name: s}, api.ErrNone)
	}
	wantRefused(t, diskOf(0), act{kind: "remove", name: "a"}, api.ErrNone)
}

// P10.2: a file has only its first bytes; of these last as many as did.
func TestCut(t *testing.T) {
	l := three(0).Files
	for n, want := range []api.File{file("m", "", ""), file("m", "1", ""), file("m", "12", ""), file("m", "123", ""), file("m", "1234", ""), file("m", "12345", ""), file("m", "12345", "6"), file("m", "12345", "67"), file("m", "12345", "678")} {
		wantAct(t, three(11), act{kind: "cut", name: "m", n: n}, l[0], want, l[2])
	}
	wantAct(t, three(11), act{kind: "cut", name: "b", n: 0}, file("b", "", ""), l[1], l[2])
	wantAct(t, three(11), act{kind: "cut", name: "b", n: 1}, l...)
	wantAct(t, three(11), act{kind: "cut", name: "x.1", n: 1}, l[0], l[1], file("x.1", "", "x"))
	wantAct(t, diskOf(0, file("a", "", "")), act{kind: "cut", name: "a"}, file("a", "", ""))
	for _, n := range []int{math.MinInt, -9, -1, 9, 10, 11, 1000, math.MaxInt} {
		wantRefused(t, three(11), act{kind: "cut", name: "m", n: n}, api.ErrArg)
		wantRefused(t, three(11), act{kind: "cut", name: "n", n: n}, api.ErrNone)
	}
	wantRefused(t, three(11), act{kind: "cut", name: "b", n: 2}, api.ErrArg)
	wantRefused(t, diskOf(0, file("a", "", "")), act{kind: "cut", name: "a", n: 1}, api.ErrArg)
	wantRefused(t, three(11), act{kind: "cut", name: "n", n: 0}, api.ErrNone)
}

// P10.2: each operation with names that may not be, ahead of what else is wrong.
func TestWrongNames(t *testing.T) {
	for _, d := range []api.Disk{three(11), diskOf(0), diskOf(mostRoom, filesOf(mostFiles)...)} {
		for _, steps := range []int{unbound, 0, 1} {
			d.Steps = steps
			for _, s := range wrongNames {
				for _, a := range []act{{kind: "create"}, {kind: "append", b: strings.Repeat("9", mostRoom+1)}, {kind: "append"}, {kind: "sync"}, {kind: "rename", to: "z"}, {kind: "remove"}, {kind: "cut", n: -1}} {
					a.name = s
					wantRefused(t, d, a, api.ErrArg)
				}
			}
		}
	}
}

// everyAct once, each of which may be done on three files with room.
var everyAct = []act{{kind: "create", name: "a"}, {kind: "append", name: "m", b: "90"}, {kind: "append", name: "m"}, {kind: "sync", name: "m"}, {kind: "sync", name: "b"}, {kind: "rename", name: "m", to: "b"}, {kind: "rename", name: "m", to: "z"}, {kind: "rename", name: "m", to: "m"}, {kind: "remove", name: "m"}, {kind: "cut", name: "m", n: 7}, {kind: "cut", name: "m", n: 8}}

// refusedActs, each with its error.
var refusedActs = map[act]api.Errno{
	{kind: "create", name: "m"}:                  api.ErrTwice,
	{kind: "create", name: ""}:                   api.ErrArg,
	{kind: "append", name: "n", b: "9"}:          api.ErrNone,
	{kind: "append", name: "m", b: "123"}:        api.ErrFull,
	{kind: "append", name: "M", b: "123"}:        api.ErrArg,
	{kind: "sync", name: "n"}:                    api.ErrNone,
	{kind: "sync", name: "N"}:                    api.ErrArg,
	{kind: "rename", name: "n", to: "b"}:         api.ErrNone,
	{kind: "rename", name: "m", to: "B"}:         api.ErrArg,
	{kind: "rename", name: "M", to: "b"}:         api.ErrArg,
	{kind: "remove", name: "n"}:                  api.ErrNone,
	{kind: "remove", name: "m m"}:                api.ErrArg,
	{kind: "cut", name: "n"}:                     api.ErrNone,
	{kind: "cut", name: "m", n: 9}:               api.ErrArg,
	{kind: "cut", name: "m", n: -1}:              api.ErrArg,
	{kind: "cut", name: "aaaaaaaaaaaaaaaaa"}:     api.ErrArg,
	{kind: "remove", name: "aaaaaaaaaaaaaaaaaa"}: api.ErrArg,
}

// P10.2: behind each operation that went well there is a step less; None stays.
func TestSteps(t *testing.T) {
	for _, a := range everyAct {
		for steps, behind := range map[int]int{-1: -1, 1: 0, 2: 1, 3: 2, 1000: 999, math.MaxInt: math.MaxInt - 1} {
			d := three(13)
			d.Steps = steps
			got, err := a.do(d)
			if err != api.OK || got.Steps != behind || got.Down {
				t.Errorf("%v of %d steps: %s and %d", a, steps, told(got), err)
			}
		}
	}
}

// P10.2: behind an error there are as many steps as there were, and power.
func TestStepsBehindErrors(t *testing.T) {
	for a, err := range refusedActs {
		for _, steps := range []int{unbound, 0, 1, 2, 1000} {
			d := three(13)
			d.Steps = steps
			wantRefused(t, d, a, err)
		}
	}
}

// P10.2: the power goes within each operation: nothing else is done, but that bytes are appended.
func TestPowerGoes(t *testing.T) {
	for _, a := range everyAct {
		d := three(13)
		d.Steps = 0
		want := d
		want.Down = true
		if a.kind == "append" {
			want.Files = three(13).Files
			want.Files[1].Loose = []byte("678" + a.b)
		}
		wantDisk(t, a.kind, d, a.do, want, api.ErrDown)
	}
}

// P10.2: of a disk that is Down each operation tells just this, and of one that isn't right that, ahead of all.
func TestDownAndWrong(t *testing.T) {
	acts := everyAct
	for a := range refusedActs {
		acts = append(acts[:len(acts):len(acts)], a)
	}
	for _, a := range acts {
		for _, steps := range []int{unbound, 0, 1, 2} {
			d := three(13)
			d.Steps, d.Down = steps, true
			wantRefused(t, d, a, api.ErrDown)
		}
	}
	for _, d := range wrongDisks() {
		for _, a := range acts {
			wantRefused(t, d, a, api.ErrArg)
		}
	}
}

// P10.2: each operation of many disks with many names, each held against what is said by hand.
func TestOperationsByHand(t *testing.T) {
	counts := map[api.Errno]int{}
	for _, d := range rightDisks() {
		acts := actsFor(d)
		for _, x := range powers(d) {
			for k, a := range acts {
				if Used(d) > 1000 && k%7 != 0 || x.Down && k%5 != 0 {
					continue
				}
				want, err := byHand(x, a)
				counts[err]++
				wantDisk(t, a.kind+" "+short(a.name)+" "+short(a.to), x, a.do, want, err)
				if !rightByHand(want) {
					t.Errorf("%s is not right any more", told(want))
				}
			}
		}
	}
	for _, err := range []api.Errno{api.OK, api.ErrArg, api.ErrTwice, api.ErrFull, api.ErrNone, api.ErrDown} {
		if counts[err] < 100 {
			t.Errorf("%d calls of the error %d", counts[err], err)
		}
	}
}
