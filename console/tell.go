package console

import (
	"strconv"

	"gazette/api"
)

// quoted is a byte string, as it is told: one word, whatever its bytes are.
type quoted string

// tell tells a line that is put together of parts.
func (m *machine) tell(parts ...any) {
	for _, p := range parts {
		switch x := p.(type) {
		case string:
			m.out.WriteString(x)
		case quoted:
			m.out.WriteString(quote(string(x)))
		case int:
			m.out.WriteString(strconv.Itoa(x))
		case uint64:
			m.out.WriteString(strconv.FormatUint(x, 10))
		case []int:
			m.out.WriteString(nodes(x))
		}
	}
	m.out.WriteByte('\n')
}

func quote(s string) string {
	const digits = "0123456789abcdef"
	if s == "" {
		return "-"
	}
	var b []byte
	for _, x := range []byte(s) {
		if x >= 33 && x <= 126 && x != '%' {
			b = append(b, x)
		} else {
			b = append(b, '%', digits[x>>4], digits[x&15])
		}
	}
	return string(b)
}

func nodes(l []int) string {
	if len(l) == 0 {
		return "-"
	}
	s := ""
	for i, n := range l {
		if i > 0 {
			s += ","
		}
		s += strconv.Itoa(n)
	}
	return s
}

func (m *machine) tellCalls(arguments) {
	for _, d := range m.cluster.Dids() {
		parts := []any{"call ", d.Client, " ", d.Number, ": "}
		m.tell(append(parts, answer(d)...)...)
	}
}

// answer is what a call was answered, as parts of a line.
func answer(d api.Did) []any {
	r := d.Reply
	switch {
	case d.Ended == 0:
		return []any{"open"}
	case r.Err != api.OK:
		return []any{"error ", int(r.Err)}
	}
	again := ""
	if r.Result.Old {
		again = " again"
	}
	switch d.Call.Kind {
	case api.CallProduce:
		return []any{"offset ", r.Result.Offset, again}
	case api.CallFetch:
		parts := []any{"next ", r.Result.Offset}
		for _, x := range r.Result.Records {
			parts = append(parts, " ", quoted(x.Key), "=", quoted(x.Value))
		}
		return parts
	case api.CallCommit:
		return []any{"done", again}
	case api.CallRead:
		if !r.Result.Old {
			return []any{"none"}
		}
		return []any{"offset ", r.Result.Offset}
	case api.CallAdmin:
		return []any{"number ", r.Number}
	}
	return []any{"shards ", len(r.Shards)}
}

func (m *machine) tellPlace(a arguments) {
	p, ok := m.cluster.Place(a.numbers[0])
	if !ok {
		m.tell("nothing")
		return
	}
	for _, t := range p.Topics {
		m.tell("topic ", quoted(t.Name))
		for _, s := range t.Shards {
			m.tell("shard ", s.Group, " ", quoted(s.Range.Lo), " ", quoted(s.Range.Hi), " epoch ", s.Epoch, " nodes ", s.Nodes, " plan ", s.Plan)
		}
	}
}

func (m *machine) tellShard(a arguments) {
	p, _, ok := m.cluster.Shard(a.numbers[0], uint64(a.numbers[1]))
	if !ok {
		m.tell("nothing")
		return
	}
	m.tell("state ", quoted(p.Range.Lo), " ", quoted(p.Range.Hi), " epoch ", p.Epoch, " frozen ", p.Frozen)
	for _, x := range p.Records {
		m.tell(x.Offset, " ", quoted(x.Key), " ", quoted(x.Value), " by ", x.Producer, " ", x.Seq)
	}
	for _, x := range p.Producers {
		parts := []any{"producer ", x.ID, " ", x.Seq}
		if x.Here {
			parts = append(parts, " at ", x.Offset)
		}
		m.tell(parts...)
	}
	for _, x := range p.Consumers {
		m.tell("consumer ", quoted(x.Name), " ", x.Offset)
	}
}

func (m *machine) tellStatus(a arguments) {
	s, ok := m.cluster.Status(a.numbers[0], uint64(a.numbers[1]))
	if !ok {
		m.tell("nothing")
		return
	}
	m.tell("role ", int(s.Role), " leader ", s.Leader, " term ", s.Hard.Term, " commit ", s.Hard.Commit, " last ", s.Last, " base ", s.Base, " voters ", s.Conf.Voters, " learners ", s.Conf.Learners)
}
