package partfsm_test

import (
	"bytes"
	"encoding/hex"
	"fmt"
	"math"
	"math/rand"
	"reflect"
	"slices"
	"strings"
	"testing"

	"gazette/api"
	"gazette/partfsm"
)

func state(t *testing.T) api.Part {
	t.Helper()
	p, e := partfsm.New(api.Range{}, 1)
	if e != api.OK {
		t.Fatal(e)
	}
	return p
}

func produce(producer, seq uint64, key, value string) api.PartCommand {
	return api.PartCommand{Kind: api.PartProduce, Epoch: 1, Producer: producer, Seq: seq, Key: key, Value: []byte(value)}
}

func fetch(offset uint64, most int) api.PartCommand {
	return api.PartCommand{Kind: api.PartFetch, Epoch: 1, Offset: offset, Most: most}
}

func commit(producer, seq uint64, name string, offset uint64) api.PartCommand {
	return api.PartCommand{Kind: api.PartCommit, Epoch: 1, Producer: producer, Seq: seq, Name: name, Offset: offset}
}

func read(name string) api.PartCommand {
	return api.PartCommand{Kind: api.PartRead, Epoch: 1, Name: name}
}

func freeze(plan uint64) api.PartCommand {
	return api.PartCommand{Kind: api.PartFreeze, Epoch: 1, Plan: plan}
}

func thaw(plan uint64) api.PartCommand {
	return api.PartCommand{Kind: api.PartThaw, Epoch: 1, Plan: plan}
}

func show(x api.PartResult) string {
	s := fmt.Sprintf("%d", x.Offset)
	if x.Err != 0 {
		s = fmt.Sprintf("error %d", x.Err)
	}
	if x.Old {
		s += " old"
	}
	for _, r := range x.Records {
		s += " " + r.Key + "=" + string(r.Value)
	}
	return s
}

// play does commands one behind the other, and holds each one's result against what is wanted.
func play(t *testing.T, p api.Part, steps ...any) api.Part {
	t.Helper()
	for i := 0; i < len(steps); i += 2 {
		c := steps[i].(api.PartCommand)
		next, x := partfsm.Do(p, c)
		if got := show(x); got != steps[i+1].(string) {
			t.Errorf("%d: %v: %q, not %q", i/2, c, got, steps[i+1])
		}
		if partfsm.Check(next) != api.OK {
			t.Error(i/2, "a state that may not be", next)
		}
		if (x.Err != 0 || c.Kind == api.PartFetch || c.Kind == api.PartRead) && !reflect.DeepEqual(next, p) {
			t.Error(i/2, "the state is another one")
		}
		p = next
	}
	return p
}

func TestExamples(t *testing.T) {
	other := produce(7, 1, "k", "v")
	other.Epoch = 2
	play(t, state(t),
		produce(7, 1, "k", "v"), "0", produce(7, 1, "k", "v"), "0 old", other, "error 162",
		produce(7, 3, "j", "w"), "1", produce(7, 2, "j", "w"), "error 152",
		fetch(0, 9), "2 k=v j=w", fetch(3, 1), "error 141",
		commit(9, 1, "c", 2), "2", commit(9, 1, "c", 0), "0 old", read("c"), "2 old", read("d"), "0",
		freeze(5), "0", freeze(5), "0 old", freeze(6), "error 164", fetch(0, 1), "error 164", produce(7, 3, "j", "w"), "1 old",
		thaw(6), "error 164", thaw(5), "0", thaw(5), "0 old",
	)
}

func TestFrozen(t *testing.T) {
	p := play(t, state(t), produce(7, 2, "k", "v"), "0", commit(8, 1, "c", 1), "1", freeze(5), "0")
	play(t, p,
		produce(7, 3, "k", "v"), "error 164", produce(7, 1, "k", "v"), "error 152", produce(7, 2, "other", "w"), "0 old",
		commit(8, 1, "c", 0), "0 old", commit(8, 2, "c", 0), "error 164", read("c"), "error 164", fetch(9, 1), "error 164",
	)
	if p.Frozen != 5 {
		t.Error(p.Frozen)
	}
	play(t, play(t, p, thaw(5), "0"), thaw(9), "0 old", fetch(1, 1), "1", fetch(0, 1), "1 k=v", commit(7, 2, "d", 9), "0 old", commit(7, 3, "d", 2), "error 141")
}

func TestKeys(t *testing.T) {
	p, _ := partfsm.New(api.Range{Lo: "b", Hi: "d"}, 1)
	play(t, p, produce(7, 1, "b", ""), "0", produce(7, 2, "d", ""), "error 163", produce(7, 1, "a", ""), "error 163", produce(7, 2, "cz", ""), "1")
}

func TestCommandsThatAreNotWellFormed(t *testing.T) {
	bad := []api.PartCommand{
		{}, {Kind: 7, Epoch: 1}, {Kind: -1, Epoch: 1}, produce(0, 1, "k", ""), produce(7, 0, "k", ""), produce(7, 1<<63, "k", ""), produce(7, 1, strings.Repeat("k", 33), ""), produce(7, 1, "k", strings.Repeat("v", 257)),
		fetch(0, 0), fetch(0, -1), fetch(0, 65), commit(0, 1, "c", 0), commit(7, 0, "c", 0), commit(7, 1, "", 0), commit(7, 1, "C", 0), read(""), read("a b"), freeze(0), thaw(0),
	}
	for i, c := range bad {
		c.Epoch = 9
		play(t, state(t), c, "error 161")
		if got, e := partfsm.ReadCommand(partfsm.Command(c)); e != api.ErrPartCommand || !reflect.ValueOf(got).IsZero() {
			t.Error(i, got, e)
		}
	}
	play(t, state(t), produce(7, 1<<63-1, strings.Repeat("k", 32), strings.Repeat("v", 256)), "0", fetch(0, 64), "1 "+strings.Repeat("k", 32)+"="+strings.Repeat("v", 256))
}

func TestCheckAndNew(t *testing.T) {
	for i, c := range []struct {
		r     api.Range
		epoch uint64
		want  api.Errno
	}{{api.Range{}, 0, api.ErrPartState}, {api.Range{Lo: "b", Hi: "b"}, 1, api.ErrPartState}, {api.Range{Lo: "b"}, math.MaxUint64, 0}} {
		p, e := partfsm.New(c.r, c.epoch)
		if e != c.want || e == 0 && (p.Range != c.r || p.Epoch != c.epoch || p.Frozen != 0) || e != 0 && !reflect.ValueOf(p).IsZero() {
			t.Error(i, p, e)
		}
	}
	good := play(t, state(t), produce(7, 1, "k", ""), "0", produce(8, 4, "l", ""), "1", produce(7, 3, "m", ""), "2", commit(7, 5, "c", 3), "3", freeze(4), "0")
	for i, do := range []func(p *api.Part){
		func(p *api.Part) { p.Range = api.Range{Hi: "l"} }, func(p *api.Part) { p.Range.Lo = "l" }, func(p *api.Part) { p.Epoch = 0 }, func(p *api.Part) { p.Records[1].Offset = 2 },
		func(p *api.Part) { p.Producers = p.Producers[:1] }, func(p *api.Part) { p.Records[0].Seq = 0 }, func(p *api.Part) { p.Records[2].Seq = 6 }, func(p *api.Part) { p.Records[2].Seq = 1 },
		func(p *api.Part) { p.Records[0].Producer = 9 }, func(p *api.Part) { p.Producers[1].Offset = 3 }, func(p *api.Part) { p.Producers[1].Offset = 0 }, func(p *api.Part) { p.Producers[1].Seq = 5 },
		func(p *api.Part) { p.Producers[0] = api.Producer{ID: 7, Seq: 5, Here: true, Offset: 2} }, func(p *api.Part) { p.Producers[0].ID = 9 }, func(p *api.Part) { p.Consumers[0].Offset = 4 }, func(p *api.Part) { p.Consumers[0].Name = "" },
		func(p *api.Part) { p.Records[0].Value = make([]byte, 257) }, func(p *api.Part) { p.Producers[1].Offset = math.MaxUint64 },
	} {
		p := good
		p.Records, p.Producers, p.Consumers = slices.Clone(p.Records), slices.Clone(p.Producers), slices.Clone(p.Consumers)
		do(&p)
		if e := partfsm.Check(p); e != api.ErrPartState {
			t.Error(i, e)
		}
		if next, x := partfsm.Do(p, read("c")); x.Err != api.ErrPartState || !reflect.ValueOf(next).IsZero() || len(x.Records) != 0 {
			t.Error(i, next, x)
		}
		if _, e := partfsm.Read(partfsm.Bytes(p)); e != api.ErrPartState && p.Records[1].Offset == 1 {
			t.Error(i, e)
		}
	}
	if partfsm.Check(good) != api.OK {
		t.Error("a good one")
	}
}

func TestFull(t *testing.T) {
	p := state(t)
	for i := range api.MaxRecords {
		p.Records = append(p.Records, api.Record{Offset: uint64(i), Producer: 1, Seq: uint64(i + 1)})
	}
	p.Producers = []api.Producer{{ID: 1, Seq: api.MaxRecords, Here: true, Offset: api.MaxRecords - 1}}
	play(t, p, produce(7, 1, "k", ""), "error 143", produce(1, api.MaxRecords, "k", ""), "4095 old", fetch(4000, 64), "4064"+strings.Repeat(" =", 64), fetch(4096, 1), "4096")
	p = state(t)
	for i := range api.MaxProducers {
		p.Producers = append(p.Producers, api.Producer{ID: uint64(i + 1), Seq: 1})
	}
	for i := range api.MaxConsumers {
		p.Consumers = append(p.Consumers, api.Consumer{Name: fmt.Sprintf("c%02d", i)})
	}
	play(t, p, produce(999, 1, "k", ""), "error 153", produce(3, 2, "k", ""), "0", commit(999, 1, "d", 2), "error 141", commit(999, 1, "d", 1), "error 143", commit(999, 1, "c07", 1), "error 153", commit(4, 2, "c07", 1), "1")
}

func TestBytes(t *testing.T) {
	for want, c := range map[string]api.PartCommand{
		"02010701016b0176": produce(7, 1, "k", "v"), "0401ac0212": fetch(300, 9), "060109010163" + "02": commit(9, 1, "c", 2), "08010163": read("c"), "0a0105": freeze(5), "0c0105": thaw(5),
	} {
		b := partfsm.Command(c)
		if hex.EncodeToString(b) != want {
			t.Error(hex.EncodeToString(b), want)
		}
		if got, e := partfsm.ReadCommand(b); e != 0 || !reflect.DeepEqual(got, c) {
			t.Error(got, e)
		}
		if _, e := partfsm.ReadCommand(append(b, 0)); e != api.ErrPartCommand {
			t.Error("something behind it", e)
		}
		if _, e := partfsm.ReadCommand(b[:len(b)-1]); e != api.ErrPartCommand {
			t.Error("too short", e)
		}
	}
	if b := partfsm.Command(api.PartCommand{Kind: 7, Epoch: 3}); len(b) != 0 {
		t.Error(b)
	}
	x := api.PartResult{Err: 9, Offset: 300, Old: true, Records: []api.Record{{Offset: 3, Key: "k", Value: []byte("v"), Producer: 9, Seq: 1}}}
	if b := partfsm.Result(x); hex.EncodeToString(b) != "12ac0201"+"01"+"03016b01760901" {
		t.Error(hex.EncodeToString(b))
	}
	if y, e := partfsm.ReadResult(partfsm.Result(x)); e != 0 || !reflect.DeepEqual(x, y) {
		t.Error(y, e)
	}
	many := api.PartResult{Records: make([]api.Record, 65)}
	for i, b := range [][]byte{nil, {0}, append(partfsm.Result(x), 0), {0, 0, 2, 0}, partfsm.Result(many)} {
		if y, e := partfsm.ReadResult(b); e != api.ErrPartCommand || !reflect.ValueOf(y).IsZero() {
			t.Error(i, y, e)
		}
	}
	p := play(t, state(t), produce(7, 1, "k", "v"), "0", commit(8, 1, "c", 1), "1", freeze(4), "0")
	if b := partfsm.Bytes(p); hex.EncodeToString(b) != "0000"+"0104"+"01"+"00016b01760701"+"02"+"07010100"+"08010000"+"01"+"016301" {
		t.Error(hex.EncodeToString(b))
	}
	for i, b := range [][]byte{nil, append(partfsm.Bytes(p), 0), {0, 0, 0, 0, 0, 0, 0}} {
		if y, e := partfsm.Read(b); e != api.ErrPartState || !reflect.ValueOf(y).IsZero() {
			t.Error(i, y, e)
		}
	}
}

func TestApply(t *testing.T) {
	p := state(t)
	next, b := partfsm.Apply(p, partfsm.Command(produce(7, 1, "k", "v")))
	if x, e := partfsm.ReadResult(b); e != 0 || show(x) != "0" || len(next.Records) != 1 {
		t.Error(x, e)
	}
	same, b := partfsm.Apply(next, []byte{1, 2, 3})
	if x, _ := partfsm.ReadResult(b); show(x) != "error 161" || !reflect.DeepEqual(same, next) {
		t.Error(x)
	}
	for _, c := range [][]byte{{1, 2, 3}, partfsm.Command(read("c"))} {
		none, b := partfsm.Apply(api.Part{}, c)
		if x, _ := partfsm.ReadResult(b); show(x) != "error 165" || !reflect.ValueOf(none).IsZero() {
			t.Error(x)
		}
	}
}

func TestMemory(t *testing.T) {
	value := []byte("v")
	c := produce(7, 1, "k", "")
	c.Value = value
	p, _ := partfsm.Do(state(t), c)
	value[0] = 'z'
	q, x := partfsm.Do(p, fetch(0, 1))
	q.Records[0].Value[0], q.Producers[0].Seq = 'q', 9
	if string(p.Records[0].Value) != "v" || string(x.Records[0].Value) != "v" || p.Producers[0].Seq != 1 {
		t.Error("memory is shared")
	}
	r, _ := partfsm.Do(p, produce(7, 2, "k", "w"))
	r.Records[0].Value[0] = 'r'
	if string(p.Records[0].Value) != "v" {
		t.Error("memory is shared")
	}
}

func randomCommand(random *rand.Rand) api.PartCommand {
	producer, seq := uint64(1+random.Intn(3)), uint64(1+random.Intn(12))
	name := string(rune('a' + random.Intn(2)))
	var c api.PartCommand
	switch random.Intn(9) {
	case 0:
		c = fetch(uint64(random.Intn(5)), 1+random.Intn(4))
	case 1, 2:
		c = commit(producer, seq, name, uint64(random.Intn(4)))
	case 3:
		c = read(name)
	case 4:
		c = freeze(uint64(1 + random.Intn(2)))
	case 5:
		c = thaw(uint64(1 + random.Intn(2)))
	default:
		c = produce(producer, seq, string(rune('a'+random.Intn(4))), "v")
	}
	if random.Intn(12) == 0 {
		c.Epoch = 2
	}
	return c
}

// TestPromises plays P16.2 to P16.5.
func TestPromises(t *testing.T) {
	random := rand.New(rand.NewSource(1))
	for range 200 {
		p, _ := partfsm.New(api.Range{Hi: "d"}, 1)
		offsets := map[[2]uint64]uint64{}
		for range 60 {
			c := randomCommand(random)
			next, x := partfsm.Do(p, c)
			if partfsm.Check(next) != 0 || !slices.EqualFunc(p.Records, next.Records[:len(p.Records)], func(a, b api.Record) bool { return reflect.DeepEqual(a, b) }) {
				t.Fatal(p, c, next)
			}
			if (x.Err != 0 || x.Old || c.Kind == api.PartFetch || c.Kind == api.PartRead) && !reflect.DeepEqual(p, next) {
				t.Fatal("changed by", c, x)
			}
			if key := [2]uint64{c.Producer, c.Seq}; c.Kind == api.PartProduce && x.Err == 0 {
				if at, known := offsets[key]; known && at != x.Offset {
					t.Fatal("another offset", c, x)
				}
				offsets[key] = x.Offset
			}
			if c.Kind == api.PartCommit && x.Err == 0 {
				if again, y := partfsm.Do(next, c); !y.Old || !reflect.DeepEqual(again, next) {
					t.Fatal("a commit that comes again", c, y)
				}
			}
			if got, e := partfsm.ReadCommand(partfsm.Command(c)); e != 0 || !bytes.Equal(partfsm.Command(got), partfsm.Command(c)) {
				t.Fatal(got, e)
			}
			applied, b := partfsm.Apply(p, partfsm.Command(c))
			if !bytes.Equal(b, partfsm.Result(x)) || !reflect.DeepEqual(applied, next) {
				t.Fatal("Apply is not Do")
			}
			p = next
			if got, e := partfsm.Read(partfsm.Bytes(p)); e != 0 || !reflect.DeepEqual(got, p) {
				t.Fatal(got, p, e)
			}
		}
		for key, at := range offsets {
			count := 0
			for _, r := range p.Records {
				if r.Producer == key[0] && r.Seq == key[1] {
					count++
				}
			}
			if count != 1 || p.Records[at].Producer != key[0] || p.Records[at].Seq != key[1] {
				t.Fatal("not once", key, at)
			}
		}
	}
}
