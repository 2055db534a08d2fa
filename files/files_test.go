package files

import (
	"errors"
	"math"
	"slices"
	"strings"
	"testing"

	"quern/api"
	"quern/disk"
	"quern/fault"
)

const (
	name = "words"
	head = "words 7\n"
)

// save writes a file, text by text.
func save(d *disk.Disk, texts ...string) error {
	f := Of(d, name, head)
	if err := f.Begin(); err != nil {
		return err
	}
	for _, text := range texts {
		if err := f.Write(text); err != nil {
			return err
		}
	}
	return f.Seal()
}

func load(d *disk.Disk) (string, error) {
	f := Of(d, name, head)
	return f.Load()
}

func saved(t *testing.T, texts ...string) *disk.Disk {
	t.Helper()
	d := disk.New(1 << 24)
	if err := save(d, texts...); err != nil {
		t.Fatalf("save: %v", err)
	}
	return d
}

func TestSums(t *testing.T) {
	for text, want := range map[string]uint64{"": 0xcbf29ce484222325, "a": 0xaf63dc4c8601ec8c, "foobar": 0x85944171f73967e8} {
		if sum := SumOf(text); sum != want {
			t.Errorf("SumOf(%q) = %x, want %x", text, sum, want)
		}
	}
	if sumOn(SumOf("foo"), "bar") != SumOf("foobar") {
		t.Errorf("a sum does not go on")
	}
}

func TestSavedIsLoaded(t *testing.T) {
	line := strings.Repeat("A", 999) + "\n"
	many := slices.Repeat([]string{line}, 500)
	for _, texts := range [][]string{nil, {"\n"}, {"A\n"}, {"A", "C\n", "\n=", "\n"}, {"=\n=7 ff\n"}, many, {strings.Join(many, "")}} {
		d := saved(t, texts...)
		want := strings.Join(texts, "")
		if text, err := load(d); text != want || err != nil {
			t.Errorf("saved %.40q, loaded %.40q, %v", want, text, err)
		}
		if l := d.List(); !slices.Equal(l, []string{name}) {
			t.Errorf("the files are %q", l)
		}
	}
}

func TestSavedAnew(t *testing.T) {
	d := saved(t, "first\n")
	d.Create(Draft)
	d.Append(Draft, "lies about")
	if err := save(d, "second\n"); err != nil {
		t.Fatalf("save: %v", err)
	}
	if text, err := load(d); text != "second\n" || err != nil {
		t.Errorf("loaded %q, %v", text, err)
	}
}

func TestLoadTellsWhatIsWrong(t *testing.T) {
	d := disk.New(1 << 20)
	if _, err := load(d); !errors.Is(err, ErrAbsent) || fault.Number(err) != api.ErrAbsent {
		t.Errorf("no file: %v", err)
	}
	d = saved(t, "A\n")
	f := Of(d, name, "words 8\n")
	if _, err := f.Load(); !errors.Is(err, ErrBroken) || fault.Number(err) != api.ErrCorrupt {
		t.Errorf("another head: %v", err)
	}
	d.Append(name, "more")
	if _, err := load(d); !errors.Is(err, ErrBroken) {
		t.Errorf("a file with more behind its seal: %v", err)
	}
	d.Die(0)
	if _, err := load(d); fault.Number(err) != api.ErrDisk {
		t.Errorf("a dead disk: %v", err)
	}
}

func TestSpoiltIsBroken(t *testing.T) {
	whole := saved(t, "AAC 1\n", "ACG 12\n")
	size, _ := whole.Size(name)
	for at := range size {
		for by := 1; by < 256; by++ {
			d := whole.Copy()
			d.Spoil(name, at, by)
			if _, err := load(d); !errors.Is(err, ErrBroken) {
				t.Fatalf("byte %d turned by %d: %v", at, by, err)
			}
		}
		d := whole.Copy()
		d.Cut(name, at)
		if _, err := load(d); !errors.Is(err, ErrBroken) {
			t.Fatalf("cut off at %d: %v", at, err)
		}
	}
}

// A name must not stand for half a file, wherever the disk fails and whatever a crash leaves.
func TestWholeOrAsItWas(t *testing.T) {
	texts := []string{strings.Repeat("A", chunk), "C\n"}
	before := saved(t, "before\n")
	for i := 0; ; i++ {
		d := before.Copy()
		d.Die(i)
		err := save(d, texts...)
		if err != nil && fault.Number(err) != api.ErrDisk {
			t.Fatalf("save with %d calls: %v", i, err)
		}
		for _, keep := range [][]int{{0, 0, 0}, {1, 0, 0}, {0, 1, 1}, {1, 1, 1}, {2, 5, 5}, nil} {
			c := d.Copy()
			c.Crash(keep)
			text, lost := load(c)
			if lost != nil || text != "before\n" && text != strings.Join(texts, "") {
				t.Fatalf("behind %d calls and the crash %v: %.20q, %v", i, keep, text, lost)
			}
			if err == nil && text == "before\n" {
				t.Fatalf("saved, but the crash %v takes it back", keep)
			}
		}
		if err == nil {
			return
		}
	}
}

func TestEveryFailureIsTold(t *testing.T) {
	almost := strings.Repeat("A", chunk-len(head)-2) // so that only the seal makes the chunk full
	for _, texts := range [][]string{{"C\n"}, {almost, "\n"}, {strings.Repeat("A", chunk), "C\n"}} {
		for i := 0; ; i++ {
			d := disk.New(1 << 20)
			d.Create(Draft)
			d.Fail(i)
			err := save(d, texts...)
			if d.Failed() == 0 {
				if err != nil {
					t.Errorf("nothing failed, but %v", err)
				}
				break
			}
			if fault.Number(err) != api.ErrDisk || !errors.Is(err, errFailed) {
				t.Errorf("call %d failed: %v", i, err)
			}
		}
	}
}

func TestNoRoom(t *testing.T) {
	size, _ := saved(t, "A\n").Size(name)
	for _, room := range []int{math.MinInt, -1, 0, 1, size - 1} {
		for _, fails := range []bool{false, true} {
			d := disk.New(room)
			if fails {
				d.Fail(1) // the Append, which has no room either
			}
			err := save(d, "A\n")
			if fault.Number(err) != api.ErrSpace || !errors.Is(err, errRoom) {
				t.Errorf("room for %d bytes: %v", room, err)
			}
		}
		d := disk.New(room)
		d.Die(1)
		if err := save(d, "A\n"); fault.Number(err) != api.ErrDisk {
			t.Errorf("room for %d bytes on a dead disk: %v", room, err)
		}
		d = disk.New(room)
		d.Fail(0) // Create, which needs no room
		if err := save(d, "A\n"); fault.Number(err) != api.ErrDisk {
			t.Errorf("room for %d bytes on a disk that fails: %v", room, err)
		}
	}
	d := disk.New(size)
	d.Fail(1)
	if err := save(d, "A\n"); fault.Number(err) != api.ErrDisk {
		t.Errorf("just as much room as is needed on a disk that fails: %v", err)
	}
	if err := save(disk.New(size), "A\n"); err != nil {
		t.Errorf("room for all: %v", err)
	}
}

// many is a disk with files a to i, all of them sure.
func many() *disk.Disk {
	d := disk.New(1 << 20)
	for _, name := range strings.Split("abcdefghi", "") {
		d.Create(name)
	}
	d.SyncDir()
	return d
}

func TestRemoveAll(t *testing.T) {
	for i := 0; ; i++ {
		d := many()
		d.Fail(i)
		err := RemoveAll(d, []string{"d", "x", "b", "a", "i", "h"})
		if d.Failed() > 0 {
			if fault.Number(err) != api.ErrDisk || !errors.Is(err, errFailed) {
				t.Errorf("call %d failed: %v", i, err)
			}
			continue
		}
		d.Crash([]int{0})
		if l := d.List(); err != nil || !slices.Equal(l, []string{"c", "e", "f", "g"}) {
			t.Errorf("RemoveAll: %v, the files %q", err, l)
		}
		return
	}
}

func TestRemoveAllMakesSureOfWhatWasGone(t *testing.T) {
	d := many()
	d.Remove("a")
	if err := RemoveAll(d, []string{"a"}); err != nil {
		t.Errorf("RemoveAll: %v", err)
	}
	d.Crash([]int{0})
	if l := d.List(); slices.Contains(l, "a") {
		t.Errorf("behind a crash the files are %q", l)
	}
	d.Die(0)
	if err := RemoveAll(d, nil); fault.Number(err) != api.ErrDisk {
		t.Errorf("RemoveAll on a dead disk: %v", err)
	}
}

// It comes to an end too where it is cut off again and again, and each crash takes back what is not sure.
func TestRemoveAllComesToItsEnd(t *testing.T) {
	d := many()
	for range 9 {
		d.Die(batch + 1)
		RemoveAll(d, d.List())
		d.Crash([]int{0})
	}
	if l := d.List(); len(l) != 0 {
		t.Errorf("the files are %q", l)
	}
}

func TestSyncNames(t *testing.T) {
	d := disk.New(1)
	d.Create("a")
	d.Fail(0)
	if err := SyncNames(d); fault.Number(err) != api.ErrDisk {
		t.Errorf("SyncNames: %v", err)
	}
	if err := SyncNames(d); err != nil {
		t.Errorf("SyncNames: %v", err)
	}
	d.Crash([]int{0})
	if l := d.List(); len(l) != 1 {
		t.Errorf("the files are %q", l)
	}
}
