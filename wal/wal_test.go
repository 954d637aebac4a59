package wal_test

import (
	"bytes"
	"encoding/hex"
	"math/rand"
	"slices"
	"strings"
	"testing"

	"gazette/api"
	"gazette/codec"
	"gazette/simdisk"
	"gazette/wal"
)

func disk(t *testing.T) *simdisk.Disk {
	t.Helper()
	d, e := simdisk.New(api.MaxRoom)
	if e != api.OK {
		t.Fatal(e)
	}
	return d
}

func open(t *testing.T, d *simdisk.Disk) (*wal.Wal, []api.Item) {
	t.Helper()
	w, l, e := wal.Open(d)
	if e != api.OK {
		t.Fatal(e)
	}
	return w, l
}

func gone(groups ...uint64) []api.Item {
	var l []api.Item
	for _, g := range groups {
		l = append(l, api.Item{Kind: api.ItemGone, Group: g})
	}
	return l
}

// large is an item whose batch fills a segment.
func large(group uint64, size int) []api.Item {
	return []api.Item{{Kind: api.ItemSnap, Group: group, Snap: api.Snap{Index: 1, Data: make([]byte, size)}}}
}

func groups(l []api.Item) []uint64 {
	var g []uint64
	for _, x := range l {
		g = append(g, x.Group)
	}
	return g
}

func told(t *testing.T, l []api.Item, want ...uint64) {
	t.Helper()
	if !slices.Equal(groups(l), want) {
		t.Error(groups(l), want)
	}
}

func TestName(t *testing.T) {
	for n, want := range map[int]string{7: "wal-00000007", 0: "", -1: "", 99999999: "wal-99999999", 100000000: "", 1: "wal-00000001"} {
		if got := wal.Name(n); got != want {
			t.Error(n, got)
		}
	}
}

func TestExamples(t *testing.T) {
	d := disk(t)
	w, l := open(t, d)
	told(t, l)
	if w.Current() != 0 || len(w.Segments()) != 0 || len(d.List()) != 0 {
		t.Error("an empty log")
	}
	if e := w.Append(gone(5)); e != api.OK || w.Current() != 1 {
		t.Error(e, w.Current())
	}
	b, _ := d.Read(wal.Name(1), 0, 99)
	if got := hex.EncodeToString(b); len(b) != 9 || !strings.HasPrefix(got, "0401020a05") || !bytes.Equal(b, codec.Frame([]byte{1, 2, 10, 5})) {
		t.Error(got)
	}
	d.Append(wal.Name(1), []byte{9, 9, 9, 9})
	d.Crash([]int{3})
	_, l = open(t, d)
	told(t, l, 5)
	if size, synced, _ := d.Size(wal.Name(1)); size != 9 || synced != 9 {
		t.Error(size, synced)
	}
	apart := disk(t)
	apart.Append(wal.Name(1), nil)
	apart.Append(wal.Name(3), nil)
	if _, _, e := wal.Open(apart); e != api.ErrWalDamaged {
		t.Error(e)
	}
}

func TestOpenRefuses(t *testing.T) {
	if w, l, e := wal.Open(nil); w != nil || l != nil || e != api.ErrArg {
		t.Error("no disk", e)
	}
	down := disk(t)
	down.Trip(0)
	down.Append("x", nil)
	if _, _, e := wal.Open(down); e != api.OK {
		t.Error("no segments on a disk that is down", e)
	}
	batch := codec.Frame([]byte{1, 2, 10, 5})
	for i, c := range []struct {
		first, last []byte
		want        api.Errno
	}{
		{batch, nil, api.OK},
		{nil, nil, api.OK},
		{batch[:8], nil, api.ErrWalDamaged},
		{append(bytes.Clone(batch), 0), batch, api.ErrWalDamaged},
		{batch, batch[:3], api.OK},
		{batch, codec.Frame([]byte{0}), api.ErrWalDamaged},
		{batch, codec.Frame(nil), api.ErrWalDamaged},
		{batch, codec.Frame([]byte{1, 2, 10, 5, 0}), api.ErrWalDamaged},
		{batch, codec.Frame([]byte{2, 2, 10, 5}), api.ErrWalDamaged},
		{batch, codec.Frame([]byte{1, 2, 12, 5}), api.ErrWalDamaged},
		{batch, codec.Frame([]byte{1, 3, 10, 5, 0}), api.ErrWalDamaged},
		{codec.Frame([]byte{1, 1, 10}), batch, api.ErrWalDamaged},
	} {
		d := disk(t)
		d.Append(wal.Name(4), c.first)
		d.Append(wal.Name(5), c.last)
		if _, _, e := wal.Open(d); e != c.want {
			t.Error(i, e)
		}
		d.Trip(0)
		d.Sync(wal.Name(4))
		if _, _, e := wal.Open(d); e != api.ErrSimdiskDown {
			t.Error(i, "down", e)
		}
	}
}

func TestOpenCutsAndSyncs(t *testing.T) {
	batch := codec.Frame([]byte{1, 2, 10, 5})
	bad := append(bytes.Clone(batch), batch...)
	bad[len(bad)-1] ^= 1
	d := disk(t)
	d.Append(wal.Name(1), append(bad, batch...))
	_, l := open(t, d)
	told(t, l, 5)
	if size, synced, _ := d.Size(wal.Name(1)); size != len(batch) || synced != len(batch) {
		t.Error(size, synced)
	}
	for done, want := range []api.Errno{api.ErrSimdiskDown, api.ErrSimdiskDown, api.OK} {
		d := disk(t)
		d.Append(wal.Name(1), bad)
		d.Trip(done)
		if _, _, e := wal.Open(d); e != want {
			t.Error(done, e)
		}
	}
	clean := disk(t)
	clean.Append(wal.Name(1), batch)
	clean.Trip(0)
	if _, _, e := wal.Open(clean); e != api.ErrSimdiskDown {
		t.Error("it is synced also if nothing was cut", e)
	}
}

func TestOtherFiles(t *testing.T) {
	d := disk(t)
	for _, name := range []string{"wal-00000000", "wal-1", "wal-000000001", "xwal-00000001", "wal-0000000a", "a"} {
		d.Append(name, []byte("no frame"))
	}
	w, l := open(t, d)
	told(t, l)
	if w.Append(gone(3)) != api.OK || !slices.Equal(w.Segments(), []int{1}) {
		t.Error(w.Segments())
	}
}

func TestAppendRefuses(t *testing.T) {
	d := disk(t)
	w, _ := open(t, d)
	many := make([]api.Item, 0)
	for range 5 {
		many = append(many, large(1, api.MaxFrame/5)...)
	}
	for i, c := range []struct {
		l    []api.Item
		want api.Errno
	}{
		{nil, api.OK}, {[]api.Item{{Kind: 9}}, api.ErrArg}, {append(gone(1), api.Item{}), api.ErrArg}, {large(1, api.MaxFrame+1), api.ErrArg},
		{large(1, api.MaxFrame), api.ErrWalLarge}, {many, api.ErrWalLarge}, {append(slices.Clone(many), api.Item{}), api.ErrArg},
		{[]api.Item{{Kind: api.ItemEntry, Group: 1}}, api.ErrArg},
	} {
		if e := w.Append(c.l); e != c.want || len(d.List()) != 0 {
			t.Error(i, e, d.List())
		}
	}
	if e := w.Append(large(1, api.MaxFrame-20)); e != api.OK {
		t.Error(e)
	}
}

func TestSegments(t *testing.T) {
	d := disk(t)
	w, _ := open(t, d)
	for i := range uint64(5) {
		w.Append(gone(i))
		if i%2 == 1 {
			w.Append(large(i+10, api.MaxSegment))
		}
	}
	if !slices.Equal(w.Segments(), []int{1, 2, 3}) || w.Current() != 3 {
		t.Error(w.Segments())
	}
	l, e := w.Items(2)
	told(t, l, 2, 3, 13)
	if _, none := w.Items(4); e != api.OK || none != api.ErrArg {
		t.Error(e, none)
	}
	if w.Drop(1) != api.OK || w.Drop(0) != api.OK || len(w.Segments()) != 3 || w.Drop(3) != api.OK || !slices.Equal(w.Segments(), []int{3}) {
		t.Error(w.Segments())
	}
	if w.Drop(99) != api.OK || !slices.Equal(w.Segments(), []int{3}) {
		t.Error("the last one stays")
	}
	w, l = open(t, d)
	told(t, l, 4)
	if w.Append(large(7, 5000)) != api.OK || w.Append(gone(8)) != api.OK || !slices.Equal(w.Segments(), []int{3, 4}) {
		t.Error(w.Segments())
	}
}

func TestASegmentIsFullAtItsBound(t *testing.T) {
	d := disk(t)
	w, _ := open(t, d)
	w.Append(large(1, api.MaxSegment-20))
	size, _, _ := d.Size(wal.Name(1))
	if size >= api.MaxSegment || w.Append(gone(2)) != api.OK || w.Current() != 1 {
		t.Error("below the bound", size)
	}
	exact := disk(t)
	v, _ := open(t, exact)
	v.Append(large(1, api.MaxSegment-20+api.MaxSegment-size))
	if size, _, _ := exact.Size(wal.Name(1)); size != api.MaxSegment {
		t.Fatal("not at the bound", size)
	}
	if v.Append(gone(2)); v.Current() != 2 {
		t.Error("at the bound")
	}
}

func TestHalt(t *testing.T) {
	for done := range 2 {
		d := disk(t)
		w, _ := open(t, d)
		w.Append(gone(1))
		d.Trip(done)
		if e := w.Append(gone(2)); e != api.ErrSimdiskDown {
			t.Error(e)
		}
		_, items := w.Items(1)
		for _, e := range []api.Errno{w.Append(gone(3)), w.Append(nil), w.Drop(1), items} {
			if e != api.ErrWalHalt {
				t.Error(e)
			}
		}
		if w.Current() != 1 {
			t.Error(w.Current())
		}
	}
	full := disk(t)
	w, _ := open(t, full)
	full.Fail(0)
	if w.Append(gone(1)) != api.ErrSimdiskFull || w.Append(gone(1)) != api.ErrWalHalt {
		t.Error("a full disk")
	}
	d := disk(t)
	w, _ = open(t, d)
	w.Append(large(1, 5000))
	w.Append(gone(1))
	d.Trip(0)
	if w.Drop(2) != api.ErrSimdiskDown || w.Drop(2) != api.ErrWalHalt {
		t.Error("Drop")
	}
}

func TestItemsOfADiskThatIsDown(t *testing.T) {
	d := disk(t)
	w, _ := open(t, d)
	w.Append(gone(1))
	d.Trip(0)
	d.Sync(wal.Name(1))
	if l, e := w.Items(1); e != api.ErrSimdiskDown || len(l) != 0 {
		t.Error(l, e)
	}
	d.Crash(nil)
	if l, e := w.Items(1); e != api.OK || len(l) != 1 {
		t.Error("it has not halted by that", l, e)
	}
}

// TestWhatWasAnsweredIsThere plays P4.2 and P4.3: crashes that keep whatever they like, anywhere.
func TestWhatWasAnsweredIsThere(t *testing.T) {
	random := rand.New(rand.NewSource(1))
	next := uint64(0)
	for range 400 {
		d := disk(t)
		var answered []uint64
		for range 6 {
			w, l := open(t, d)
			told(t, l, answered...)
			_, again := open(t, d)
			told(t, again, answered...)
			d.Trip(random.Intn(14))
			var batch []uint64
			for e := api.OK; e == api.OK; {
				answered, batch = append(answered, batch...), nil
				for range 1 + random.Intn(3) {
					next++
					batch = append(batch, next)
				}
				items := gone(batch...)
				if random.Intn(4) == 0 {
					items = append(large(next, random.Intn(6000)), items...)
					batch = append([]uint64{next}, batch...)
				}
				e = w.Append(items)
			}
			keep := make([]int, 8)
			for i := range keep {
				keep[i] = random.Intn(40)
				if random.Intn(2) == 0 {
					keep[i] = 100000
				}
			}
			d.Crash(keep)
			_, l = open(t, d)
			if len(l) == len(answered)+len(batch) {
				answered = append(answered, batch...)
			}
			told(t, l, answered...)
			if t.Failed() {
				return
			}
		}
	}
}
