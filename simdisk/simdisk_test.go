package simdisk_test

import (
	"bytes"
	"math"
	"math/rand"
	"slices"
	"strconv"
	"strings"
	"testing"

	"gazette/api"
	"gazette/simdisk"
)

func disk(t *testing.T, room int) *simdisk.Disk {
	t.Helper()
	d, e := simdisk.New(room)
	if e != api.OK {
		t.Fatal(e)
	}
	return d
}

func expect(t *testing.T, got []api.Errno, want ...api.Errno) {
	t.Helper()
	if !slices.Equal(got, want) {
		t.Error(got, want)
	}
}

func size(t *testing.T, d *simdisk.Disk, name string, bytes, synced int, there bool) {
	t.Helper()
	if b, s, ok := d.Size(name); b != bytes || s != synced || ok != there {
		t.Error(name, b, s, ok)
	}
}

func content(t *testing.T, d *simdisk.Disk, name, want string) {
	t.Helper()
	if b, e := d.Read(name, 0, math.MaxInt); e != api.OK || string(b) != want {
		t.Errorf("%s: %q %v, not %q", name, b, e, want)
	}
}

func TestNew(t *testing.T) {
	for room, want := range map[int]api.Errno{-1: api.ErrArg, 0: api.OK, api.MaxRoom: api.OK, api.MaxRoom + 1: api.ErrArg} {
		d, e := simdisk.New(room)
		if e != want || (d == nil) != (e != api.OK) {
			t.Error(room, e, d)
		}
	}
}

func TestExamples(t *testing.T) {
	d := disk(t, 10)
	expect(t, []api.Errno{d.Append("a", []byte("xyz")), d.Sync("a"), d.Append("a", []byte("uv"))}, 0, 0, 0)
	size(t, d, "a", 5, 3, true)
	d.Crash([]int{1})
	content(t, d, "a", "xyzu")
	size(t, d, "a", 4, 4, true)
	expect(t, []api.Errno{d.Append("b", []byte("1234567")), d.Append("B", nil)}, api.ErrSimdiskFull, api.ErrSimdiskName)
	d.Trip(1)
	expect(t, []api.Errno{d.Remove("c"), d.Sync("a"), d.Sync("a")}, api.ErrSimdiskNone, 0, api.ErrSimdiskDown)
	if b, e := d.Read("a", 0, 1); e != api.ErrSimdiskDown || len(b) != 0 || !d.Down() {
		t.Error(b, e)
	}
	d.Crash(nil)
	d.Fail(0)
	expect(t, []api.Errno{d.Append("a", []byte("q")), d.Append("a", []byte("q")), d.Rename("a", "b")}, api.ErrSimdiskFull, 0, 0)
	if l := d.List(); !slices.Equal(l, []string{"b"}) {
		t.Error(l)
	}
}

func TestNames(t *testing.T) {
	d := disk(t, 10)
	for _, name := range []string{"", strings.Repeat("a", 25), "A", "a_b", "a b", "ä", "a/b"} {
		expect(t, []api.Errno{d.Append(name, nil)}, api.ErrSimdiskName)
	}
	for _, name := range []string{"a", strings.Repeat("z", 24), "wal-00000001", "0.9", "-", "."} {
		expect(t, []api.Errno{d.Append(name, nil)}, 0)
		size(t, d, name, 0, 0, true)
	}
}

func TestAppendAndRoom(t *testing.T) {
	d := disk(t, 4)
	b := []byte("abc")
	expect(t, []api.Errno{d.Append("a", b)}, 0)
	b[0] = 'z'
	content(t, d, "a", "abc")
	expect(t, []api.Errno{d.Append("b", []byte("12")), d.Append("b", []byte("1")), d.Append("c", []byte("1")), d.Append("c", nil)}, api.ErrSimdiskFull, 0, api.ErrSimdiskFull, 0)
	if d.Used() != 4 {
		t.Error(d.Used())
	}
	many := disk(t, 100)
	for i := range api.MaxFiles {
		expect(t, []api.Errno{many.Append("f"+strconv.Itoa(i), nil)}, 0)
	}
	expect(t, []api.Errno{many.Append("f64", nil), many.Append("f63", []byte("x")), many.Remove("f0"), many.Append("f64", nil)}, api.ErrSimdiskFull, 0, 0, 0)
}

func TestTruncate(t *testing.T) {
	d := disk(t, 10)
	d.Append("a", []byte("abc"))
	d.Sync("a")
	d.Append("a", []byte("de"))
	expect(t, []api.Errno{d.Truncate("b", 0), d.Truncate("a", -1), d.Truncate("a", 6), d.Truncate("a", 4)}, api.ErrSimdiskNone, api.ErrArg, api.ErrArg, 0)
	size(t, d, "a", 4, 3, true)
	expect(t, []api.Errno{d.Truncate("a", 2)}, 0)
	size(t, d, "a", 2, 2, true)
	d.Append("a", []byte("x"))
	content(t, d, "a", "abx")
}

func TestRenameAndRemove(t *testing.T) {
	d := disk(t, 10)
	d.Append("a", []byte("ab"))
	d.Sync("a")
	d.Append("a", []byte("c"))
	d.Append("b", []byte("z"))
	expect(t, []api.Errno{d.Rename("c", "B"), d.Rename("a", "B"), d.Rename("a", "a"), d.Rename("a", "b")}, api.ErrSimdiskNone, api.ErrSimdiskName, 0, 0)
	size(t, d, "a", 0, 0, false)
	size(t, d, "b", 3, 2, true)
	expect(t, []api.Errno{d.Remove("a"), d.Remove("b"), d.Remove("b"), d.Sync("b")}, api.ErrSimdiskNone, 0, api.ErrSimdiskNone, api.ErrSimdiskNone)
	if d.Used() != 0 || len(d.List()) != 0 {
		t.Error(d.List())
	}
}

func TestRead(t *testing.T) {
	d := disk(t, 10)
	d.Append("a", []byte("abcd"))
	for i, c := range []struct {
		name  string
		at, n int
		want  string
		e     api.Errno
	}{
		{"b", 0, 1, "", api.ErrSimdiskNone}, {"a", -1, 1, "", api.ErrArg}, {"a", 0, -1, "", api.ErrArg}, {"a", 5, 0, "", api.ErrArg},
		{"a", 4, 9, "", 0}, {"a", 1, 2, "bc", 0}, {"a", 2, math.MaxInt, "cd", 0}, {"b", -1, 1, "", api.ErrSimdiskNone},
	} {
		if b, e := d.Read(c.name, c.at, c.n); string(b) != c.want || e != c.e {
			t.Error(i, string(b), e)
		}
	}
	b, _ := d.Read("a", 0, 2)
	b[0] = 'z'
	_ = append(b, 'z')
	content(t, d, "a", "abcd")
}

func TestTrip(t *testing.T) {
	d := disk(t, 10)
	d.Trip(2)
	expect(t, []api.Errno{d.Append("B", nil), d.Append("a", make([]byte, 11)), d.Append("a", nil), d.Truncate("a", 1), d.Rename("a", "a"), d.Sync("b"), d.Sync("a")},
		api.ErrSimdiskName, api.ErrSimdiskFull, 0, api.ErrArg, 0, api.ErrSimdiskNone, api.ErrSimdiskDown)
	if !d.Down() {
		t.Error("it is up")
	}
	expect(t, []api.Errno{d.Append("B", nil), d.Remove("b")}, api.ErrSimdiskDown, api.ErrSimdiskDown)
	size(t, d, "a", 0, 0, true)
	d.Crash(nil)
	expect(t, []api.Errno{d.Sync("a"), d.Append("a", []byte("x"))}, 0, 0)
	d.Trip(0)
	expect(t, []api.Errno{d.Append("a", []byte("y"))}, api.ErrSimdiskDown)
	size(t, d, "a", 1, 0, true)
	d.Crash([]int{9})
	d.Trip(0)
	d.Trip(-3)
	expect(t, []api.Errno{d.Sync("a")}, 0)
	d.Trip(0)
	d.Crash(nil)
	expect(t, []api.Errno{d.Sync("a")}, 0)
}

func TestFail(t *testing.T) {
	d := disk(t, 3)
	d.Fail(1)
	expect(t, []api.Errno{d.Append("B", nil), d.Append("a", make([]byte, 4)), d.Append("a", nil), d.Append("a", nil)},
		api.ErrSimdiskName, api.ErrSimdiskFull, api.ErrSimdiskFull, 0)
	d.Fail(0)
	d.Fail(-1)
	expect(t, []api.Errno{d.Append("a", nil)}, 0)
	d.Fail(0)
	d.Crash(nil)
	expect(t, []api.Errno{d.Append("a", nil)}, 0)
	d.Fail(0)
	d.Trip(0)
	expect(t, []api.Errno{d.Append("a", nil), d.Append("a", nil)}, api.ErrSimdiskFull, api.ErrSimdiskDown)
}

func TestCrash(t *testing.T) {
	d := disk(t, 100)
	for _, name := range []string{"c", "a", "b", "d"} {
		d.Append(name, []byte(name+"12"))
		d.Sync(name)
		d.Append(name, []byte("345"))
	}
	d.Crash([]int{2, -1, math.MaxInt})
	for name, want := range map[string]string{"a": "a1234", "b": "b12", "c": "c12345", "d": "d12"} {
		content(t, d, name, want)
		size(t, d, name, len(want), len(want), true)
	}
}

func TestClone(t *testing.T) {
	d := disk(t, 10)
	d.Append("a", []byte("abc"))
	d.Sync("a")
	d.Append("a", []byte("d"))
	d.Trip(1)
	c := d.Clone()
	expect(t, []api.Errno{d.Append("a", []byte("z")), d.Sync("a")}, 0, api.ErrSimdiskDown)
	size(t, c, "a", 4, 3, true)
	expect(t, []api.Errno{c.Append("a", []byte("y")), c.Sync("a")}, 0, api.ErrSimdiskDown)
	if !d.Clone().Down() {
		t.Error("a clone of one that is down")
	}
	c.Crash([]int{9})
	content(t, c, "a", "abcdy")
	d.Crash(nil)
	content(t, d, "a", "abc")
	f := disk(t, 1)
	f.Fail(0)
	g := f.Clone()
	expect(t, []api.Errno{f.Append("a", nil), g.Append("a", nil)}, api.ErrSimdiskFull, api.ErrSimdiskFull)
}

// TestWhatIsSyncedStays plays P2.2 and P2.3 against what the files had.
func TestWhatIsSyncedStays(t *testing.T) {
	random := rand.New(rand.NewSource(1))
	for range 300 {
		d := disk(t, 40)
		for range 60 {
			name := string(rune('a' + random.Intn(4)))
			ahead, _ := d.Read(name, 0, 100)
			_, synced, _ := d.Size(name)
			switch random.Intn(5) {
			case 0, 1:
				d.Append(name, make([]byte, random.Intn(9)))
			case 2:
				d.Sync(name)
			case 3:
				d.Append(name, []byte{byte(random.Intn(256))})
			default:
				d.Crash([]int{random.Intn(5) - 1, random.Intn(5), random.Intn(5)})
				behind, _ := d.Read(name, 0, 100)
				if len(behind) < synced || !bytes.HasPrefix(ahead, behind) {
					t.Fatal(ahead, synced, behind)
				}
			}
			if d.Used() > 40 {
				t.Fatal("more bytes than there is room for")
			}
		}
	}
}
