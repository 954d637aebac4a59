package lineage_test

import (
	"fmt"
	"math"
	"math/rand"
	"reflect"
	"strings"
	"testing"

	"gazette/api"
	"gazette/keyrange"
	"gazette/lineage"
	"gazette/partfsm"
	"gazette/producers"
)

// show tells a state: range, epoch, records, producers, consumers.
func show(p api.Part) string {
	s := fmt.Sprintf("%q-%q e%d f%d:", p.Range.Lo, p.Range.Hi, p.Epoch, p.Frozen)
	for _, x := range p.Records {
		s += fmt.Sprintf(" %s(%d/%d)", x.Key, x.Producer, x.Seq)
	}
	for _, x := range p.Producers {
		s += fmt.Sprintf(" %d/%d", x.ID, x.Seq)
		if x.Here {
			s += fmt.Sprintf("@%d", x.Offset)
		}
	}
	for _, x := range p.Consumers {
		s += fmt.Sprintf(" %s=%d", x.Name, x.Offset)
	}
	return s
}

func do(t *testing.T, p api.Part, l ...api.PartCommand) api.Part {
	t.Helper()
	for _, c := range l {
		c.Epoch = p.Epoch
		next, x := partfsm.Do(p, c)
		if x.Err != api.OK {
			t.Fatal(c, x.Err)
		}
		p = next
	}
	return p
}

func produce(producer, seq uint64, key string) api.PartCommand {
	return api.PartCommand{Kind: api.PartProduce, Producer: producer, Seq: seq, Key: key, Value: []byte(key)}
}

func commit(producer, seq uint64, name string, offset uint64) api.PartCommand {
	return api.PartCommand{Kind: api.PartCommit, Producer: producer, Seq: seq, Name: name, Offset: offset}
}

func freeze() api.PartCommand { return api.PartCommand{Kind: api.PartFreeze, Plan: 1} }

// example is the chapter's; the consumer's commit is of the producer 9.
func example(t *testing.T) api.Part {
	t.Helper()
	p, _ := partfsm.New(api.Range{}, 3)
	return do(t, p, produce(7, 1, "a"), produce(7, 2, "m"), produce(8, 1, "b"), commit(9, 1, "c", 2), freeze())
}

func TestExamples(t *testing.T) {
	p := example(t)
	a, b, e := lineage.Split(p, "c")
	if e != 0 || show(a) != `""-"c" e4 f0: a(7/1) b(8/1) 7/2 8/1@1 9/1 c=1` || show(b) != `"c"-"" e4 f0: m(7/2) 7/2@0 8/1 9/1 c=1` {
		t.Error(show(a), show(b), e)
	}
	m, e := lineage.Merge(do(t, a, freeze()), do(t, b, freeze()))
	if e != 0 || show(m) != `""-"" e5 f0: a(7/1) b(8/1) m(7/2) 7/2@2 8/1@1 9/1 c=1` {
		t.Error(show(m), e)
	}
	a.Records[0].Value[0] = 'z'
	if string(p.Records[0].Value) != "a" {
		t.Error("memory is shared")
	}
}

func TestSplitRefuses(t *testing.T) {
	p := example(t)
	live := p
	live.Frozen = 0
	last := p
	last.Epoch = math.MaxUint64
	none := p
	none.Producers = nil
	noneLive := none
	noneLive.Frozen = 0
	for i, c := range []struct {
		p    api.Part
		key  string
		want api.Errno
	}{
		{live, "c", api.ErrLineageLive}, {live, "", api.ErrLineageLive}, {p, "", api.ErrKeyRange}, {p, strings.Repeat("k", 33), api.ErrKeyLong}, {last, "c", api.ErrLineageState}, {none, "c", api.ErrLineageState}, {noneLive, "", api.ErrLineageState}, {api.Part{}, "c", api.ErrLineageState},
	} {
		if a, b, e := lineage.Split(c.p, c.key); e != c.want || !reflect.ValueOf(a).IsZero() || !reflect.ValueOf(b).IsZero() {
			t.Error(i, e)
		}
	}
}

func part(t *testing.T, r api.Range, epoch uint64, l ...api.PartCommand) api.Part {
	t.Helper()
	p, e := partfsm.New(r, epoch)
	if e != api.OK {
		t.Fatal(e)
	}
	return do(t, p, append(l, freeze())...)
}

func TestMergeRefuses(t *testing.T) {
	low, high := api.Range{Hi: "c"}, api.Range{Lo: "c"}
	a, b := part(t, low, 1, produce(7, 1, "a")), part(t, high, 4, produce(8, 1, "m"))
	live := a
	live.Frozen = 0
	last := a
	last.Epoch = math.MaxUint64
	crowd, other := a, b
	crowd.Producers, other.Producers = nil, nil
	crowd.Records, other.Records = nil, nil
	for i := range uint64(200) {
		crowd.Producers = append(crowd.Producers, api.Producer{ID: 1 + 2*i, Seq: 1})
		other.Producers = append(other.Producers, api.Producer{ID: 2 + 2*i, Seq: 1})
	}
	readers, others := crowd, other
	readers.Producers, others.Producers = nil, nil
	for i := range 40 {
		readers.Consumers = append(readers.Consumers, api.Consumer{Name: fmt.Sprintf("a%02d", i)})
		others.Consumers = append(others.Consumers, api.Consumer{Name: fmt.Sprintf("b%02d", i)})
	}
	for i, c := range []struct {
		a, b api.Part
		want api.Errno
	}{
		{a, b, 0}, {b, a, api.ErrKeyApart}, {live, b, api.ErrLineageLive}, {live, api.Part{}, api.ErrLineageState}, {a, live, api.ErrLineageLive}, {last, b, api.ErrLineageState}, {api.Part{}, b, api.ErrLineageState},
		{part(t, low, 1, produce(7, 5, "a"), produce(8, 1, "b")), part(t, high, 1, produce(8, 2, "m"), produce(7, 3, "n")), api.ErrRecordsOrder},
		{part(t, low, 1, produce(7, 1, "a")), part(t, high, 1, produce(7, 1, "m")), api.ErrLineageState}, {crowd, other, api.ErrProducersFull}, {readers, others, api.ErrRecordsFull},
	} {
		m, e := lineage.Merge(c.a, c.b)
		if e != c.want || e != 0 && !reflect.ValueOf(m).IsZero() {
			t.Error(i, e)
		}
		if e == 0 && (m.Epoch != 5 || m.Frozen != 0) {
			t.Error(i, m)
		}
	}
}

func randomPart(t *testing.T, random *rand.Rand) api.Part {
	p, _ := partfsm.New(api.Range{}, 1)
	seqs := map[uint64]uint64{}
	for range random.Intn(14) {
		producer := uint64(1 + random.Intn(3))
		seqs[producer] += uint64(1 + random.Intn(2))
		if random.Intn(4) == 0 {
			p = do(t, p, commit(producer, seqs[producer], string(rune('a'+random.Intn(2))), uint64(random.Intn(len(p.Records)+1))))
		} else {
			p = do(t, p, produce(producer, seqs[producer], string(rune('a'+random.Intn(5)))))
		}
	}
	return do(t, p, freeze())
}

// values are what is left of records but their places.
func values(l []api.Record, within func(key string) bool) string {
	s := ""
	for _, x := range l {
		if within(x.Key) {
			s += fmt.Sprintf(" %s(%d/%d)", x.Key, x.Producer, x.Seq)
		}
	}
	return s
}

// TestPromises plays P17.1 to P17.4.
func TestPromises(t *testing.T) {
	random := rand.New(rand.NewSource(1))
	for range 1500 {
		p := randomPart(t, random)
		a, b, e := lineage.Split(p, "c")
		if e != 0 || partfsm.Check(a) != 0 || partfsm.Check(b) != 0 {
			t.Fatal(show(p), e)
		}
		for _, c := range []api.Part{a, b} {
			within := func(key string) bool { return keyrange.Has(c.Range, key) }
			if values(c.Records, within) != values(p.Records, within) || len(values(c.Records, within)) != len(values(c.Records, func(string) bool { return true })) {
				t.Fatal(show(p), show(c))
			}
			for _, x := range p.Consumers {
				readsOn(t, p, c, x)
			}
		}
		for id := uint64(1); id < 4; id++ {
			for seq := uint64(1); seq < 20; seq++ {
				judged(t, p, a, b, id, seq)
			}
		}
		m, e := lineage.Merge(do(t, a, freeze()), do(t, b, freeze()))
		if e == api.ErrRecordsOrder {
			continue
		}
		if e != 0 || m.Range != p.Range || partfsm.Check(m) != 0 || len(m.Records) != len(p.Records) {
			t.Fatal(show(p), show(m), e)
		}
		for key := 'a'; key < 'f'; key++ {
			same := func(k string) bool { return k == string(key) }
			if values(p.Records, same) != values(m.Records, same) {
				t.Fatal(show(p), show(m))
			}
		}
		for i, x := range m.Producers {
			if p.Producers[i].ID != x.ID || p.Producers[i].Seq != x.Seq {
				t.Fatal(show(p), show(m))
			}
		}
		for _, x := range p.Consumers {
			readsOn(t, p, m, x)
		}
	}
}

// readsOn: is each record that a consumer had not read, and that stands in c, at or behind where he reads on there?
func readsOn(t *testing.T, p, c api.Part, x api.Consumer) {
	t.Helper()
	at := uint64(math.MaxUint64)
	for _, y := range c.Consumers {
		if y.Name == x.Name {
			at = y.Offset
		}
	}
	for _, r := range p.Records[x.Offset:] {
		for i, s := range c.Records {
			if s.Producer == r.Producer && s.Seq == r.Seq && uint64(i) < at {
				t.Fatal("skipped", show(p), show(c), x)
			}
		}
	}
}

// judged holds P17.3: what is not new to p is not new to its children; where the record stands it is old.
func judged(t *testing.T, p, a, b api.Part, id, seq uint64) {
	t.Helper()
	was, offset := producers.Judge(p.Producers, id, seq)
	inA, _ := producers.Judge(a.Producers, id, seq)
	inB, _ := producers.Judge(b.Producers, id, seq)
	if was != api.SeqNew && (inA == api.SeqNew || inB == api.SeqNew) {
		t.Fatal("forgotten", show(p), id, seq)
	}
	if was == api.SeqOld {
		inside := keyrange.Has(a.Range, p.Records[offset].Key)
		if (inA == api.SeqOld) != inside || (inB == api.SeqOld) != !inside {
			t.Fatal("old elsewhere", show(p), show(a), show(b), id, seq)
		}
	}
}
