package beats_test

import (
	"encoding/hex"
	"math"
	"math/rand"
	"reflect"
	"testing"

	"gazette/api"
	"gazette/beats"
)

func beat(group uint64, to int) beats.Wire {
	return beats.Wire{Group: group, Msg: api.Msg{Kind: api.MsgAppend, From: 1, To: to, Term: 3, Index: 9, LogTerm: 2, Commit: 8}}
}

func vote(group uint64, to int) beats.Wire {
	return beats.Wire{Group: group, Msg: api.Msg{Kind: api.MsgVote, From: 1, To: to, Term: 3, Index: 9, LogTerm: 2}}
}

func TestIs(t *testing.T) {
	for i, c := range []struct {
		m    api.Msg
		want bool
	}{
		{api.Msg{}, false}, {api.Msg{Kind: api.MsgVote}, false}, {api.Msg{Kind: api.MsgAppend}, true}, {beat(1, 2).Msg, true},
		{api.Msg{Kind: api.MsgAppended, From: 1, To: 2, Term: 3, Index: 4}, true}, {api.Msg{Kind: api.MsgAppended, LogTerm: 1}, false}, {api.Msg{Kind: api.MsgAppended, Commit: 1}, false},
		{api.Msg{Kind: api.MsgAppend, Entries: []api.Entry{{}}}, false}, {api.Msg{Kind: api.MsgAppend, Entries: []api.Entry{}}, true}, {api.Msg{Kind: api.MsgAppend, Reject: true}, false},
		{api.Msg{Kind: api.MsgAppend, Hint: 1}, false}, {api.Msg{Kind: api.MsgAppend, Conf: api.Conf{Voters: []int{1}}}, false}, {api.Msg{Kind: api.MsgAppend, Conf: api.Conf{Learners: []int{1}}}, false},
		{api.Msg{Kind: api.MsgAppend, Data: []byte{1}}, false}, {api.Msg{Kind: api.MsgAppend, Done: true}, false}, {api.Msg{Kind: api.MsgAppended, Reject: true}, false}, {api.Msg{Kind: api.MsgAppended, Hint: 7}, false},
	} {
		if beats.Is(c.m) != c.want {
			t.Error(i)
		}
	}
}

func TestExamples(t *testing.T) {
	l, e := beats.Pack(1, []beats.Wire{beat(5, 2), vote(5, 3), beat(6, 2)})
	if e != 0 || len(l) != 2 || l[0].Kind != api.PacketBeat || l[0].From != 1 || l[0].To != 2 || l[1].Kind != api.PacketRaft || l[1].To != 3 {
		t.Fatal(l, e)
	}
	if got := hex.EncodeToString(l[0].Data); got != "02"+"050003090208"+"060003090208" {
		t.Error(got)
	}
	if got := hex.EncodeToString(l[1].Data); got != "01"+"0506030902"+"00"+"00"+"00"+"00"+"0000"+"00"+"00" {
		t.Error(got)
	}
	if w, e := beats.Open(l[0]); e != 0 || !reflect.DeepEqual(w, []beats.Wire{beat(5, 2), beat(6, 2)}) {
		t.Error(w, e)
	}
	if l, e := beats.Pack(1, nil); len(l) != 0 || e != 0 {
		t.Error(l, e)
	}
	answer := beats.Wire{Group: 7, Msg: api.Msg{Kind: api.MsgAppended, From: 1, To: 2, Term: 3, Index: 9}}
	if l, _ := beats.Pack(1, []beats.Wire{answer}); hex.EncodeToString(l[0].Data) != "0107010309" {
		t.Error(l)
	}
}

func TestPackRefuses(t *testing.T) {
	many := make([]beats.Wire, api.MaxWires+1)
	for i := range many {
		many[i] = beat(1, 2)
	}
	with := func(do func(m *api.Msg)) []beats.Wire {
		x := vote(1, 2)
		do(&x.Msg)
		return []beats.Wire{beat(1, 2), x}
	}
	for i, c := range []struct {
		from int
		l    []beats.Wire
		want api.Errno
	}{
		{0, nil, api.ErrArg}, {8, nil, api.ErrArg}, {2, []beats.Wire{beat(1, 3)}, api.ErrArg}, {1, []beats.Wire{beat(1, 1)}, api.ErrArg}, {1, []beats.Wire{beat(1, 0)}, api.ErrArg}, {1, []beats.Wire{beat(1, 8)}, api.ErrArg},
		{1, with(func(m *api.Msg) { m.Kind = 0 }), api.ErrArg}, {1, with(func(m *api.Msg) { m.Kind = 10 }), api.ErrArg},
		{1, many, api.ErrTooMany}, {1, append(many, vote(1, 1)), api.ErrArg}, {1, many[1:], 0},
		{1, with(func(m *api.Msg) { m.Entries = make([]api.Entry, 9) }), api.ErrTooMany}, {1, with(func(m *api.Msg) { m.Entries = make([]api.Entry, 1) }), api.ErrTooMany},
		{1, with(func(m *api.Msg) { m.Entries = []api.Entry{{Kind: 4}} }), api.ErrTooMany}, {1, with(func(m *api.Msg) { m.Entries = []api.Entry{{Kind: 3}} }), 0},
		{1, with(func(m *api.Msg) { m.Data = make([]byte, api.MaxFrame+1) }), api.ErrTooMany}, {1, with(func(m *api.Msg) { m.Data = make([]byte, api.MaxFrame) }), 0},
		{1, with(func(m *api.Msg) { m.Entries = []api.Entry{{Kind: 1, Data: make([]byte, api.MaxFrame+1)}} }), api.ErrTooMany},
		{1, with(func(m *api.Msg) { m.Conf.Voters = make([]int, 8) }), api.ErrTooMany}, {1, with(func(m *api.Msg) { m.Conf.Learners = make([]int, 7) }), 0},
		{1, with(func(m *api.Msg) { m.Entries = []api.Entry{{Kind: 1, Conf: api.Conf{Learners: make([]int, 8)}}} }), api.ErrTooMany},
	} {
		l, e := beats.Pack(c.from, c.l)
		if e != c.want || e != 0 && len(l) != 0 {
			t.Error(i, e, len(l))
		}
	}
}

func TestOpenRefuses(t *testing.T) {
	for i, c := range []struct {
		from, to, kind int
		data           string
		want           api.Errno
	}{
		{1, 2, 3, "01", api.ErrArg}, {1, 2, 0, "01", api.ErrArg}, {1, 1, 2, "01", api.ErrArg}, {0, 1, 2, "01", api.ErrArg}, {1, 8, 1, "01", api.ErrArg}, {8, 1, 1, "01", api.ErrArg},
		{1, 2, 2, "", api.ErrCodecShort}, {1, 2, 2, "00", api.ErrBeatsForm}, {1, 2, 2, "0005", api.ErrBeatsForm}, {1, 2, 2, "05", api.ErrCodecShort}, {1, 2, 2, "8120", api.ErrCodecLong},
		{1, 2, 2, "01050003090208", 0}, {1, 2, 2, "0105000309020800", api.ErrCodecRest}, {1, 2, 2, "01050203090208", api.ErrCodecKind}, {1, 2, 2, "010500030902", api.ErrCodecShort},
		{1, 2, 1, "01050603090200000000000000" + "00", 0}, {1, 2, 1, "0105060309020000000000000000" + "00", api.ErrCodecRest},
		{1, 2, 1, "01050a03090200000000000000" + "00", api.ErrBeatsForm}, {1, 2, 1, "01050c03090000000000000000" + "00", api.ErrBeatsForm},
		{1, 2, 1, "01050003090200000000000000" + "00", api.ErrBeatsForm}, {1, 2, 1, "01051403090200000000000000" + "00", api.ErrBeatsForm}, {1, 2, 1, "0105140309020000000000000000", api.ErrBeatsForm},
		{1, 2, 1, "010514030902000000", api.ErrCodecShort}, {1, 2, 1, "01050a0309020900000000000000000000", api.ErrCodecLong}, {1, 2, 1, "01050a0309020101010a", api.ErrCodecKind},
		{1, 2, 1, "01050a03090200000200", api.ErrCodecKind},
	} {
		b, err := hex.DecodeString(c.data)
		if err != nil {
			t.Fatal(i, err)
		}
		l, e := beats.Open(api.Packet{From: c.from, To: c.to, Kind: c.kind, Data: b})
		if e != c.want || (len(l) == 0) != (e != 0) {
			t.Error(i, e, l)
		}
	}
}

func randomWire(random *rand.Rand) beats.Wire {
	number := func() uint64 { return []uint64{0, 0, 1, 300, math.MaxUint64}[random.Intn(5)] }
	text := func() []byte {
		if n := random.Intn(6); n > 0 && random.Intn(3) == 0 {
			return make([]byte, n)
		}
		return nil
	}
	conf := func() api.Conf {
		if random.Intn(4) > 0 {
			return api.Conf{}
		}
		return api.Conf{Voters: []int{1, 5}, Learners: []int{-3}}
	}
	m := api.Msg{Kind: api.MsgKind(1 + random.Intn(9)), From: 4, To: []int{1, 2, 3, 5, 6, 7}[random.Intn(6)], Term: number(), Index: number(), LogTerm: number(), Commit: number(), Reject: random.Intn(5) == 0, Done: random.Intn(5) == 0, Conf: conf(), Data: text()}
	if random.Intn(4) == 0 {
		m.Hint = number()
	}
	for range random.Intn(30) / 22 {
		m.Entries = append(m.Entries, api.Entry{Index: number(), Term: number(), Kind: api.EntryKind(1 + random.Intn(3)), Data: text(), Conf: conf()})
	}
	return beats.Wire{Group: number(), Msg: m}
}

// TestThereAndBack plays P11.1 and P11.2.
func TestThereAndBack(t *testing.T) {
	random := rand.New(rand.NewSource(1))
	type box struct {
		to   int
		beat bool
	}
	for range 2000 {
		want := map[box][]beats.Wire{}
		var l []beats.Wire
		for range random.Intn(20) {
			x := randomWire(random)
			l = append(l, x)
			b := box{x.Msg.To, beats.Is(x.Msg)}
			want[b] = append(want[b], x)
		}
		packets, e := beats.Pack(4, l)
		if e != 0 || len(packets) != len(want) {
			t.Fatal(e, len(packets), len(want))
		}
		ahead := api.Packet{}
		for _, p := range packets {
			if p.To < ahead.To || p.To == ahead.To && p.Kind >= ahead.Kind {
				t.Fatal("the order of packets", ahead, p)
			}
			ahead = p
			got, e := beats.Open(p)
			if e != 0 || !reflect.DeepEqual(got, want[box{p.To, p.Kind == api.PacketBeat}]) {
				t.Fatal(e, got)
			}
			again, e := beats.Pack(4, got)
			if e != 0 || len(again) != 1 || !reflect.DeepEqual(again[0], p) {
				t.Fatal(e, again)
			}
		}
	}
}
