package producers_test

import (
	"math"
	"math/rand"
	"slices"
	"testing"

	"gazette/api"
	"gazette/producers"
)

func here(id, seq, offset uint64) api.Producer {
	return api.Producer{ID: id, Seq: seq, Here: true, Offset: offset}
}

func passed(id, seq uint64) api.Producer { return api.Producer{ID: id, Seq: seq} }

func table(l ...api.Producer) []api.Producer { return l }

func crowd(n int) []api.Producer {
	var l []api.Producer
	for i := range n {
		l = append(l, passed(uint64(i+1)*2, 1))
	}
	return l
}

func TestTable(t *testing.T) {
	for i, c := range []struct {
		l    []api.Producer
		want bool
	}{
		{nil, true}, {crowd(256), true}, {crowd(257), false}, {table(passed(0, 1)), false}, {table(passed(1, 0)), false}, {table(passed(1, 1<<63)), false}, {table(passed(1, 1<<63-1)), true},
		{table(passed(2, 1), passed(1, 1)), false}, {table(passed(2, 1), passed(2, 2)), false}, {table(api.Producer{ID: 1, Seq: 1, Offset: 1}), false}, {table(here(1, 1, 9)), true},
	} {
		if producers.Table(c.l) != c.want {
			t.Error(i)
		}
	}
}

func TestJudge(t *testing.T) {
	l := table(passed(3, 5), here(7, 3, 9), here(7, 8, 1))
	for _, c := range []struct {
		id, seq uint64
		want    api.Verdict
		at      uint64
	}{
		{7, 3, api.SeqOld, 9}, {7, 2, api.SeqGone, 0}, {7, 4, api.SeqNew, 0}, {8, 1, api.SeqNew, 0}, {0, 1, api.SeqBad, 0}, {7, 1 << 63, api.SeqBad, 0}, {7, 0, api.SeqBad, 0}, {7, math.MaxUint64, api.SeqBad, 0},
		{3, 5, api.SeqGone, 0}, {3, 6, api.SeqNew, 0}, {7, 1<<63 - 1, api.SeqNew, 0}, {0, 0, api.SeqBad, 0},
	} {
		if v, at := producers.Judge(l, c.id, c.seq); v != c.want || at != c.at {
			t.Error(c, v, at)
		}
	}
}

func TestAcceptAndPass(t *testing.T) {
	l := table(here(7, 3, 9))
	bad := table(passed(2, 1), passed(1, 1))
	for i, c := range []struct {
		l       []api.Producer
		id, seq uint64
		want    []api.Producer
		e       api.Errno
	}{
		{l, 5, 1, table(here(5, 1, 2), here(7, 3, 9)), 0}, {l, 7, 4, table(here(7, 4, 2)), 0}, {l, 9, 1, table(here(7, 3, 9), here(9, 1, 2)), 0}, {nil, 1, 1, table(here(1, 1, 2)), 0},
		{bad, 0, 0, nil, api.ErrArg}, {l, 0, 1, nil, api.ErrProducersSeq}, {l, 7, 1 << 63, nil, api.ErrProducersSeq}, {l, 7, 3, nil, api.ErrProducersOld}, {l, 7, 1, nil, api.ErrProducersOld},
		{crowd(256), 0, 1, nil, api.ErrProducersSeq}, {crowd(256), 3, 1, nil, api.ErrProducersFull}, {crowd(256), 2, 1, nil, api.ErrProducersOld},
	} {
		got, e := producers.Accept(c.l, c.id, c.seq, 2)
		if e != c.e || !slices.Equal(got, c.want) {
			t.Error(i, got, e)
		}
		want := slices.Clone(c.want)
		for j := range want {
			if want[j].ID == c.id {
				want[j] = passed(c.id, c.seq)
			}
		}
		if got, e = producers.Pass(c.l, c.id, c.seq); e != c.e || !slices.Equal(got, want) {
			t.Error(i, got, e)
		}
	}
	if got, e := producers.Accept(crowd(256), 4, 2, 0); e != 0 || len(got) != 256 || !got[1].Here {
		t.Error(e)
	}
	if !slices.Equal(l, table(here(7, 3, 9))) {
		t.Error("the table is changed", l)
	}
	roomy := append(make([]api.Producer, 0, 4), here(1, 1, 1))
	producers.Accept(roomy, 2, 1, 1)
	if roomy[:2][1].ID != 0 {
		t.Error("spare room is changed")
	}
}

func TestMove(t *testing.T) {
	for i, c := range []struct {
		l    []api.Producer
		to   []uint64
		want []api.Producer
	}{
		{table(here(5, 1, 2), here(7, 3, 0)), []uint64{0, 1, 1, 1}, table(passed(5, 1), here(7, 3, 0))}, {table(here(5, 1, 2)), []uint64{0, 1, 1, 2}, table(here(5, 1, 1))},
		{table(here(5, 1, 0)), []uint64{0, 0, 1}, table(passed(5, 1))}, {table(here(5, 1, 0)), nil, table(passed(5, 1))}, {table(here(5, 1, 0)), []uint64{4}, table(passed(5, 1))}, {table(here(5, 1, 1)), []uint64{4, 5}, table(passed(5, 1))},
		{table(here(5, 1, math.MaxUint64)), []uint64{4, 5}, table(passed(5, 1))}, {table(api.Producer{ID: 0, Seq: 0, Offset: 1}), []uint64{4, 5, 6}, table(passed(0, 0))}, {nil, []uint64{1}, nil}, {table(passed(5, 1)), []uint64{0, 1}, table(passed(5, 1))},
	} {
		if got := producers.Move(c.l, c.to); !slices.Equal(got, c.want) {
			t.Error(i, got)
		}
	}
}

func TestBoth(t *testing.T) {
	toA, toB := []uint64{0, 2}, []uint64{1, 2}
	for i, c := range []struct {
		a, b, want []api.Producer
		e          api.Errno
	}{
		{table(here(5, 1, 0)), table(here(5, 2, 0)), table(here(5, 2, 1)), 0}, {table(here(5, 3, 0)), table(here(5, 2, 0)), table(here(5, 3, 0)), 0}, {table(passed(5, 2)), table(here(5, 2, 0)), table(here(5, 2, 1)), 0},
		{table(here(5, 2, 0)), table(passed(5, 2)), table(here(5, 2, 0)), 0}, {table(here(5, 2, 0)), table(here(5, 2, 0)), table(here(5, 2, 0)), 0}, {table(here(5, 2, 1)), table(here(5, 2, 0)), table(here(5, 2, 1)), 0},
		{table(passed(5, 9)), table(here(5, 2, 0)), table(passed(5, 9)), 0}, {table(passed(1, 1), passed(9, 1)), table(here(5, 2, 0)), table(passed(1, 1), here(5, 2, 1), passed(9, 1)), 0}, {nil, nil, nil, 0},
		{table(passed(0, 1)), nil, nil, api.ErrArg}, {nil, table(passed(0, 1)), nil, api.ErrArg}, {crowd(256), table(passed(1, 1)), nil, api.ErrProducersFull}, {crowd(256), crowd(256), crowd(256), 0},
	} {
		got, e := producers.Both(c.a, c.b, toA, toB)
		if e != c.e || !slices.Equal(got, c.want) {
			t.Error(i, got, e)
		}
	}
}

// TestOnce plays P15.2.
func TestOnce(t *testing.T) {
	random := rand.New(rand.NewSource(1))
	var l []api.Producer
	accepted := map[uint64]uint64{}
	for range 5000 {
		id, seq := uint64(1+random.Intn(4)), uint64(1+random.Intn(40))
		v, _ := producers.Judge(l, id, seq)
		if (v == api.SeqNew) != (seq > accepted[id]) {
			t.Fatal(id, seq, v, accepted[id])
		}
		next, e := producers.Accept(l, id, seq, seq)
		if (e == api.OK) != (v == api.SeqNew) {
			t.Fatal(v, e)
		}
		if e == api.OK {
			l, accepted[id] = next, seq
		}
	}
}

func randomTable(random *rand.Rand) []api.Producer {
	var l []api.Producer
	for id := range uint64(5) {
		switch random.Intn(3) {
		case 0:
			l = append(l, here(id+1, uint64(1+random.Intn(3)), uint64(random.Intn(4))))
		case 1:
			l = append(l, passed(id+1, uint64(1+random.Intn(3))))
		}
	}
	return l
}

// TestNothingIsForgotten plays P15.3.
func TestNothingIsForgotten(t *testing.T) {
	random := rand.New(rand.NewSource(2))
	for range 3000 {
		a, b := randomTable(random), randomTable(random)
		toA, toB := []uint64{0, 1, 1, 2, 5}, []uint64{0, 2, 3, 4, 4}
		moved := producers.Move(a, toA)
		both, e := producers.Both(a, b, toA, toB)
		if e != api.OK || !producers.Table(both) || !producers.Table(moved) {
			t.Fatal(a, b, both, e)
		}
		for id := uint64(1); id < 6; id++ {
			for seq := uint64(1); seq < 5; seq++ {
				inA, _ := producers.Judge(a, id, seq)
				inB, _ := producers.Judge(b, id, seq)
				inMoved, _ := producers.Judge(moved, id, seq)
				inBoth, _ := producers.Judge(both, id, seq)
				if inA != api.SeqNew && inMoved == api.SeqNew || (inA != api.SeqNew || inB != api.SeqNew) && inBoth == api.SeqNew {
					t.Fatal("forgotten", id, seq, a, b, moved, both)
				}
			}
		}
	}
}
