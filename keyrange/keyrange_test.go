package keyrange_test

import (
	"math/rand"
	"slices"
	"strings"
	"testing"

	"gazette/api"
	"gazette/keyrange"
)

func r(lo, hi string) api.Range { return api.Range{Lo: lo, Hi: hi} }

func long(n int) string { return strings.Repeat("k", n) }

func TestCheck(t *testing.T) {
	for _, c := range []struct {
		r    api.Range
		want api.Errno
	}{
		{r("", ""), 0}, {r("b", "b"), api.ErrKeyRange}, {r("b", "a"), api.ErrKeyRange}, {r("b", ""), 0}, {r("", "a"), 0}, {r("a", "ab"), 0}, {r("ab", "a"), api.ErrKeyRange},
		{r(long(32), ""), 0}, {r(long(33), ""), api.ErrKeyLong}, {r("", long(33)), api.ErrKeyLong}, {r("z", long(33)), api.ErrKeyLong}, {r("\x00", "\xff"), 0},
	} {
		if e := keyrange.Check(c.r); e != c.want {
			t.Error(c.r, e)
		}
	}
}

func TestHas(t *testing.T) {
	for _, c := range []struct {
		r    api.Range
		key  string
		want bool
	}{
		{r("b", "d"), "b", true}, {r("b", "d"), "c9", true}, {r("b", "d"), "d", false}, {r("b", "d"), "a", false}, {r("", ""), "", true}, {r("", ""), long(32), true},
		{r("", ""), long(33), false}, {r("b", "b"), "b", false}, {r("d", "b"), "c", false}, {r("", long(33)), "a", false}, {r("b", "d"), "cz", true}, {r("", "a"), "", true}, {r("b", ""), "\xff", true},
	} {
		if keyrange.Has(c.r, c.key) != c.want {
			t.Error(c.r, c.key)
		}
	}
}

func TestSplitAndMerge(t *testing.T) {
	for _, c := range []struct {
		r    api.Range
		key  string
		a, b api.Range
		want api.Errno
	}{
		{r("b", ""), "k", r("b", "k"), r("k", ""), 0}, {r("b", "d"), "b", r("", ""), r("", ""), api.ErrKeyRange}, {r("b", "d"), "d", r("", ""), r("", ""), api.ErrKeyRange}, {r("b", "d"), "a", r("", ""), r("", ""), api.ErrKeyRange},
		{r("b", "b"), long(33), r("", ""), r("", ""), api.ErrKeyRange}, {r("", ""), long(33), r("", ""), r("", ""), api.ErrKeyLong}, {r("", ""), "", r("", ""), r("", ""), api.ErrKeyRange}, {r("", "\x01"), "\x00", r("", "\x00"), r("\x00", "\x01"), 0},
	} {
		a, b, e := keyrange.Split(c.r, c.key)
		if a != c.a || b != c.b || e != c.want {
			t.Error(c, a, b, e)
		}
	}
	for _, c := range []struct {
		a, b, r api.Range
		want    api.Errno
	}{
		{r("a", "c"), r("c", ""), r("a", ""), 0}, {r("a", ""), r("", "b"), r("", ""), api.ErrKeyApart}, {r("a", "b"), r("c", "d"), r("", ""), api.ErrKeyApart}, {r("a", "c"), r("b", "d"), r("", ""), api.ErrKeyApart}, {r("c", "d"), r("a", "c"), r("", ""), api.ErrKeyApart},
		{r("b", "b"), r("", long(33)), r("", ""), api.ErrKeyRange}, {r("", ""), r("", long(33)), r("", ""), api.ErrKeyLong}, {r("", ""), r("", ""), r("", ""), api.ErrKeyApart}, {r("a", "b"), r("b", "c"), r("a", "c"), 0},
	} {
		if got, e := keyrange.Merge(c.a, c.b); got != c.r || e != c.want {
			t.Error(c, got, e)
		}
	}
}

func TestMeet(t *testing.T) {
	for _, c := range []struct {
		a, b, want api.Range
		some       bool
	}{
		{r("a", "m"), r("f", ""), r("f", "m"), true}, {r("a", "c"), r("c", "d"), r("", ""), false}, {r("", ""), r("", ""), r("", ""), true}, {r("", "b"), r("", ""), r("", "b"), true}, {r("", ""), r("", "b"), r("", "b"), true},
		{r("a", "z"), r("b", "c"), r("b", "c"), true}, {r("a", "c"), r("b", "z"), r("b", "c"), true}, {r("x", ""), r("y", ""), r("y", ""), true}, {r("b", "b"), r("", ""), r("", ""), false}, {r("", ""), r("", long(33)), r("", ""), false}, {r("x", "z"), r("a", "b"), r("", ""), false},
	} {
		for range 2 {
			if got, some := keyrange.Meet(c.a, c.b); got != c.want || some != c.some {
				t.Error(c, got, some)
			}
			c.a, c.b = c.b, c.a
		}
	}
}

func TestFindAndWhole(t *testing.T) {
	l := []api.Range{r("", "g"), r("h", "h"), r("c", "m"), r("m", "")}
	for key, want := range map[string]int{"": 0, "f": 0, "g": 2, "m": 3, "z": 3} {
		if at, ok := keyrange.Find(l, key); at != want || !ok {
			t.Error(key, at, ok)
		}
	}
	for _, key := range []string{long(33)} {
		if at, ok := keyrange.Find(l, key); at != 0 || ok {
			t.Error(key, at, ok)
		}
	}
	if at, ok := keyrange.Find(l[2:3], "z"); at != 0 || ok {
		t.Error(at, ok)
	}
	for i, c := range []struct {
		l    []api.Range
		want api.Errno
		at   int
	}{
		{[]api.Range{r("", "g"), r("g", "")}, 0, 0}, {[]api.Range{r("", "g"), r("h", "")}, api.ErrKeyApart, 1}, {nil, api.ErrKeyApart, 0}, {[]api.Range{r("", "g")}, api.ErrKeyApart, 1}, {[]api.Range{r("", "")}, 0, 0},
		{[]api.Range{r("a", "")}, api.ErrKeyApart, 0}, {[]api.Range{r("", ""), r("", "")}, api.ErrKeyApart, 0}, {[]api.Range{r("", "g"), r("g", "g")}, api.ErrKeyRange, 1}, {[]api.Range{r("", "g"), r("f", long(33))}, api.ErrKeyLong, 1},
		{[]api.Range{r("", "g"), r("", "")}, api.ErrKeyApart, 1}, {[]api.Range{r("", "g"), r("f", "")}, api.ErrKeyApart, 1}, {[]api.Range{r("", "b"), r("b", "c"), r("c", "d")}, api.ErrKeyApart, 3}, {[]api.Range{r("", "b"), r("b", ""), r("x", "y")}, api.ErrKeyApart, 1},
	} {
		if e, at := keyrange.Whole(c.l); e != c.want || at != c.at {
			t.Error(i, e, at)
		}
	}
}

func randomKey(random *rand.Rand) string {
	b := make([]byte, random.Intn(3))
	for i := range b {
		b[i] = byte('a' + random.Intn(4))
	}
	return string(b)
}

// TestPromises plays P13.2 and P13.3.
func TestPromises(t *testing.T) {
	random := rand.New(rand.NewSource(1))
	for range 500 {
		l := []api.Range{{}}
		for range 12 {
			key := randomKey(random)
			at, ok := keyrange.Find(l, key)
			if !ok {
				t.Fatal("a key that none has", l, key)
			}
			for i, x := range l {
				if keyrange.Has(x, key) != (i == at) {
					t.Fatal("a key that lies within another one", l, key)
				}
			}
			a, b, e := keyrange.Split(l[at], key)
			if e != api.OK {
				continue
			}
			whole := l[at]
			if m, e := keyrange.Merge(a, b); m != whole || e != api.OK {
				t.Fatal(m, whole, e)
			}
			for range 20 {
				k := randomKey(random)
				inA, inB := keyrange.Has(a, k), keyrange.Has(b, k)
				if inA && inB || (inA || inB) != keyrange.Has(whole, k) {
					t.Fatal(a, b, k)
				}
			}
			l = slices.Replace(slices.Clone(l), at, at+1, a, b)
			if e, at := keyrange.Whole(l); e != api.OK {
				t.Fatal(l, e, at)
			}
		}
	}
}
