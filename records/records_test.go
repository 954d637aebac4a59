package records_test

import (
	"fmt"
	"math"
	"math/rand"
	"reflect"
	"slices"
	"strings"
	"testing"

	"gazette/api"
	"gazette/records"
)

// log is records of producers and numbers, as "1/5", at their places; a key behind a colon.
func log(l ...string) []api.Record {
	var out []api.Record
	for i, s := range l {
		x := api.Record{Offset: uint64(i), Value: []byte{byte('a' + i)}}
		name, key, _ := strings.Cut(s, ":")
		fmt.Sscanf(name, "%d/%d", &x.Producer, &x.Seq)
		x.Key = key
		out = append(out, x)
	}
	return out
}

func show(l []api.Record) string {
	var s []string
	for i, x := range l {
		s = append(s, fmt.Sprintf("%d/%d", x.Producer, x.Seq))
		if x.Offset != uint64(i) {
			s = append(s, "not at its place")
		}
	}
	return strings.Join(s, " ")
}

func keys(l []api.Record) string {
	s := ""
	for _, x := range l {
		s += x.Key
	}
	return s
}

func TestName(t *testing.T) {
	for _, s := range []string{"", strings.Repeat("a", 33), "A", "a b", "a/b", "é", "a%"} {
		if records.Name(s) {
			t.Error(s)
		}
	}
	for _, s := range []string{"a", strings.Repeat("z", 32), "0-9_.", "-", "_", "."} {
		if !records.Name(s) {
			t.Error(s)
		}
	}
}

func full(n int) []api.Record {
	l := make([]api.Record, n)
	for i := range l {
		l[i].Offset = uint64(i)
	}
	return l
}

func TestLog(t *testing.T) {
	for i, c := range []struct {
		l    []api.Record
		want bool
	}{
		{nil, true}, {log("1/1", "1/2"), true}, {[]api.Record{{Offset: 1}}, false}, {[]api.Record{{}, {}}, false}, {full(api.MaxRecords), true}, {full(api.MaxRecords + 1), false},
		{[]api.Record{{Key: strings.Repeat("k", 32), Value: make([]byte, 256)}}, true}, {[]api.Record{{Key: strings.Repeat("k", 33)}}, false}, {[]api.Record{{Value: make([]byte, 257)}}, false},
	} {
		if records.Log(c.l) != c.want {
			t.Error(i)
		}
	}
}

func TestAppend(t *testing.T) {
	longKey, longValue := strings.Repeat("k", 33), make([]byte, 257)
	for i, c := range []struct {
		l    []api.Record
		x    api.Record
		at   uint64
		want api.Errno
	}{
		{nil, api.Record{Offset: 9}, 0, 0}, {log("1/1"), api.Record{}, 1, 0}, {full(2)[1:], api.Record{Key: longKey}, 0, api.ErrArg}, {full(4096), api.Record{Key: longKey, Value: longValue}, 0, api.ErrKeyLong},
		{full(4096), api.Record{Value: longValue}, 0, api.ErrRecordsValue}, {full(4096), api.Record{}, 0, api.ErrRecordsFull}, {full(4095), api.Record{}, 4095, 0},
	} {
		l, at, e := records.Append(c.l, c.x)
		if at != c.at || e != c.want || e == 0 && (len(l) != len(c.l)+1 || !records.Log(l)) || e != 0 && len(l) != 0 {
			t.Error(i, len(l), at, e)
		}
	}
	l := append(make([]api.Record, 0, 5), log("1/1")...)
	v := []byte("v")
	got, _, _ := records.Append(l, api.Record{Value: v})
	v[0], got[0].Value[0] = 'z', 'z'
	if got[1].Value[0] != 'v' || l[0].Value[0] != 'a' || l[:2][1].Value != nil {
		t.Error("memory")
	}
}

func TestFetch(t *testing.T) {
	l := full(100)
	for i, c := range []struct {
		l      []api.Record
		offset uint64
		most   int
		count  int
		want   api.Errno
	}{
		{l, 0, 9, 9, 0}, {l, 0, math.MaxInt, 64, 0}, {l, 99, 9, 1, 0}, {l, 100, 9, 0, 0}, {l, 101, 9, 0, api.ErrRecordsOffset}, {l, math.MaxUint64, 9, 0, api.ErrRecordsOffset},
		{l, 5, 0, 0, 0}, {l, 5, -1, 0, 0}, {l[1:], 500, 9, 0, api.ErrArg}, {nil, 0, 1, 0, 0},
	} {
		got, e := records.Fetch(c.l, c.offset, c.most)
		if len(got) != c.count || e != c.want || len(got) > 0 && got[0].Offset != c.offset {
			t.Error(i, len(got), e)
		}
	}
	s := log("1/1", "1/2")
	got, _ := records.Fetch(s, 0, 2)
	got[0].Value[0] = 'z'
	_ = append(got[0].Value, 'q')
	if s[0].Value[0] != 'a' || got[1].Value[0] != 'b' {
		t.Error("memory")
	}
}

func TestKeep(t *testing.T) {
	l := log("1/1:a", "1/2:m", "2/1:b")
	kept, to := records.Keep(l, api.Range{Hi: "c"})
	if keys(kept) != "ab" || show(kept) != "1/1 2/1" || !slices.Equal(to, []uint64{0, 1, 1, 2}) {
		t.Error(kept, to)
	}
	kept[0].Value[0] = 'z'
	if l[0].Value[0] != 'a' {
		t.Error("memory")
	}
	if kept, to := records.Keep(l, api.Range{Lo: "n"}); len(kept) != 0 || !slices.Equal(to, []uint64{0, 0, 0, 0}) {
		t.Error(kept, to)
	}
	if kept, to := records.Keep(nil, api.Range{}); len(kept) != 0 || !slices.Equal(to, []uint64{0}) {
		t.Error(kept, to)
	}
	for _, c := range []struct {
		l []api.Record
		r api.Range
	}{{l[1:], api.Range{}}, {l, api.Range{Lo: "b", Hi: "b"}}} {
		if kept, to := records.Keep(c.l, c.r); len(kept)+len(to) != 0 {
			t.Error(kept, to)
		}
	}
}

func TestJoin(t *testing.T) {
	for i, c := range []struct {
		a, b     []api.Record
		want     string
		toA, toB []uint64
		e        api.Errno
	}{
		{log("1/5", "2/1"), log("1/3", "2/2"), "1/3 1/5 2/1 2/2", []uint64{1, 2, 4}, []uint64{0, 3, 4}, 0},
		{log("1/5", "2/1"), log("2/2", "1/3"), "", nil, nil, api.ErrRecordsOrder},
		{nil, nil, "", []uint64{0}, []uint64{0}, 0}, {nil, log("1/1"), "1/1", []uint64{1}, []uint64{0, 1}, 0}, {log("1/1"), nil, "1/1", []uint64{0, 1}, []uint64{1}, 0},
		{log("1/1", "1/2"), log("1/1", "1/2"), "1/1 1/1 1/2 1/2", []uint64{0, 2, 4}, []uint64{1, 3, 4}, 0},
		{log("3/1", "1/9"), log("2/1", "1/1"), "3/1 2/1 1/1 1/9", []uint64{0, 3, 4}, []uint64{1, 2, 4}, 0},
		{log("1/9", "1/1"), log("1/5"), "", nil, nil, api.ErrRecordsOrder},
		{log("1/5"), log("1/9", "1/1"), "1/9 1/1 1/5", nil, nil, api.ErrRecordsOrder},
		{log("1/1")[:0], full(4097), "", nil, nil, api.ErrArg}, {full(4096), full(1), "", nil, nil, api.ErrRecordsFull}, {full(2)[1:], nil, "", nil, nil, api.ErrArg},
	} {
		got, toA, toB, e := records.Join(c.a, c.b)
		if e != c.e || e == 0 && (show(got) != c.want || !slices.Equal(toA, c.toA) || !slices.Equal(toB, c.toB)) || e != 0 && len(got)+len(toA)+len(toB) != 0 {
			t.Error(i, show(got), toA, toB, e)
		}
	}
}

func consumer(name string, offset uint64) api.Consumer {
	return api.Consumer{Name: name, Offset: offset}
}

func crowd(n int) []api.Consumer {
	var l []api.Consumer
	for i := range n {
		l = append(l, consumer(fmt.Sprintf("c%02d", i), 0))
	}
	return l
}

func TestConsumers(t *testing.T) {
	for i, c := range []struct {
		l    []api.Consumer
		want bool
	}{{nil, true}, {crowd(64), true}, {crowd(65), false}, {[]api.Consumer{consumer("b", 0), consumer("a", 0)}, false}, {[]api.Consumer{consumer("a", 0), consumer("a", 1)}, false}, {[]api.Consumer{consumer("A", 0)}, false}} {
		if records.Consumers(c.l) != c.want {
			t.Error(i)
		}
	}
}

func TestCommitAndRead(t *testing.T) {
	l := []api.Consumer{consumer("b", 1), consumer("d", 2)}
	bad := []api.Consumer{consumer("b", 1), consumer("a", 2)}
	for i, c := range []struct {
		l    []api.Consumer
		x    api.Consumer
		end  uint64
		want []api.Consumer
		e    api.Errno
	}{
		{l, consumer("c", 5), 5, []api.Consumer{consumer("b", 1), consumer("c", 5), consumer("d", 2)}, 0}, {l, consumer("d", 0), 5, []api.Consumer{consumer("b", 1), consumer("d", 0)}, 0},
		{nil, consumer("a", 0), 0, []api.Consumer{consumer("a", 0)}, 0}, {bad, consumer("", 9), 5, nil, api.ErrArg}, {l, consumer("", 9), 5, nil, api.ErrRecordsName}, {l, consumer("c", 6), 5, nil, api.ErrRecordsOffset},
		{crowd(64), consumer("d", 9), 5, nil, api.ErrRecordsOffset}, {crowd(64), consumer("d", 5), 5, nil, api.ErrRecordsFull},
	} {
		got, e := records.Commit(c.l, c.x, c.end)
		if e != c.e || !slices.Equal(got, c.want) {
			t.Error(i, got, e)
		}
	}
	if got, e := records.Commit(crowd(64), consumer("c07", 3), 5); e != 0 || len(got) != 64 || got[7].Offset != 3 {
		t.Error(got, e)
	}
	if !slices.Equal(l, []api.Consumer{consumer("b", 1), consumer("d", 2)}) {
		t.Error("the list is changed", l)
	}
	odd := []api.Consumer{consumer("b", 1), consumer("a", 2), consumer("a", 3)}
	if at, ok := records.Read(odd, "a"); at != 2 || !ok {
		t.Error(at, ok)
	}
	if at, ok := records.Read(odd, "c"); at != 0 || ok {
		t.Error(at, ok)
	}
}

func TestMapAndBoth(t *testing.T) {
	c := func(offset uint64) []api.Consumer { return []api.Consumer{consumer("c", offset)} }
	if got := records.Map(c(2), []uint64{0, 1, 1, 2}); !slices.Equal(got, c(1)) {
		t.Error(got)
	}
	if got := records.Map(c(math.MaxUint64), []uint64{0, 7}); !slices.Equal(got, c(7)) {
		t.Error(got)
	}
	if got := records.Map(c(2), nil); len(got) != 0 {
		t.Error(got)
	}
	odd := []api.Consumer{consumer("Z", 1), consumer("A", 0)}
	if got := records.Map(odd, []uint64{3, 4}); !slices.Equal(got, []api.Consumer{consumer("Z", 4), consumer("A", 3)}) {
		t.Error(got)
	}
	toA, toB := []uint64{1, 2, 4}, []uint64{0, 3, 4}
	for i, x := range []struct {
		a, b []api.Consumer
		toB  []uint64
		want []api.Consumer
		e    api.Errno
	}{
		{c(2), c(0), toB, c(0), 0}, {c(2), c(9), toB, c(4), 0}, {c(1), c(1), toB, c(2), 0}, {c(2), nil, toB, c(0), 0}, {nil, c(2), toB, c(1), 0}, {nil, nil, toB, nil, 0},
		{[]api.Consumer{consumer("a", 0), consumer("z", 9)}, c(1), toB, []api.Consumer{consumer("a", 0), consumer("c", 1), consumer("z", 0)}, 0},
		{c(2), c(0), nil, nil, api.ErrArg}, {odd, c(0), toB, nil, api.ErrArg}, {c(0), odd, toB, nil, api.ErrArg}, {crowd(64), c(1), toB, nil, api.ErrRecordsFull}, {crowd(64), crowd(64), toB, crowd(64), 0},
	} {
		got, e := records.Both(x.a, x.b, toA, x.toB)
		if e != x.e || !slices.Equal(got, x.want) {
			t.Error(i, got, e)
		}
	}
	if _, e := records.Both(nil, nil, nil, toB); e != api.ErrArg {
		t.Error(e)
	}
}

func randomLog(random *rand.Rand) []api.Record {
	seqs := map[uint64]uint64{}
	var l []string
	for range random.Intn(9) {
		p := uint64(1 + random.Intn(3))
		seqs[p] += uint64(random.Intn(3))
		l = append(l, fmt.Sprintf("%d/%d:%c", p, seqs[p], 'a'+random.Intn(4)))
	}
	return log(l...)
}

// subsequence: do the records of l that are of other stand there in their order, at to?
func stands(l, other []api.Record, to []uint64) bool {
	for i, x := range l {
		y := other[to[i]]
		y.Offset = x.Offset
		if !reflect.DeepEqual(x, y) || i > 0 && to[i] <= to[i-1] {
			return false
		}
	}
	return true
}

// TestPromises plays P14.2 and P14.3.
func TestPromises(t *testing.T) {
	random := rand.New(rand.NewSource(1))
	joins := 0
	for range 5000 {
		a, b := randomLog(random), randomLog(random)
		joined, toA, toB, e := records.Join(a, b)
		if e == api.ErrRecordsOrder {
			continue
		}
		joins++
		if len(joined) != len(a)+len(b) || !stands(a, joined, toA) || !stands(b, joined, toB) {
			t.Fatal(show(a), show(b), show(joined))
		}
		last := map[uint64]uint64{}
		for _, x := range joined {
			if x.Seq < last[x.Producer] {
				t.Fatal(show(a), show(b), show(joined))
			}
			last[x.Producer] = x.Seq
		}
		atA, atB := uint64(random.Intn(len(a)+1)), uint64(random.Intn(len(b)+1))
		both, _ := records.Both([]api.Consumer{consumer("c", atA)}, []api.Consumer{consumer("c", atB)}, toA, toB)
		for i := range a {
			if uint64(i) >= atA && toA[i] < both[0].Offset {
				t.Fatal("skipped", show(a), show(b), atA, both)
			}
		}
		for i := range b {
			if uint64(i) >= atB && toB[i] < both[0].Offset {
				t.Fatal("skipped", show(a), show(b), atB, both)
			}
		}
		r := api.Range{Lo: "b", Hi: "d"}
		kept, to := records.Keep(a, r)
		mapped := records.Map([]api.Consumer{consumer("c", atA)}, to)
		k := 0
		for i, x := range a {
			if x.Key < r.Lo || x.Key >= r.Hi {
				continue
			}
			if uint64(k) != to[i] || !reflect.DeepEqual(kept[k].Value, x.Value) || uint64(i) >= atA && to[i] < mapped[0].Offset {
				t.Fatal("Keep", show(a), show(kept))
			}
			k++
		}
		if k != len(kept) {
			t.Fatal("Keep", show(a), show(kept))
		}
	}
	if joins < 1000 {
		t.Error("too few joins", joins)
	}
}
