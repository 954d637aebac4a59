package console

import (
	"strings"

	"gazette/api"
	"gazette/cluster"
	"gazette/history"
)

// mostDeliveries is how many packets come in a round at most.
const mostDeliveries = 500

// row is what a line's first word stands for: what stands behind it, and what is done.
type row struct {
	form string
	do   func(*machine, arguments)
}

// machine is the cluster that a script plays, and what was told so far.
type machine struct {
	cluster          *cluster.Cluster
	servers, clients int
	out              strings.Builder
}

// rows are all words that a line may begin with.
func rows() map[string]row {
	m := map[string]row{
		"cluster": {"nn", (*machine).begin},
		"rounds":  {"n", (*machine).rounds},
		"heal":    {"", func(m *machine, _ arguments) { m.step(api.Step{Kind: api.StepHeal}) }},
		"part":    {"n", func(m *machine, a arguments) { m.step(api.Step{Kind: api.StepPart, N: a.numbers[0]}) }},
		"rise":    {"n", func(m *machine, a arguments) { m.step(api.Step{Kind: api.StepRise, Node: a.numbers[0]}) }},
		"calls":   {"", (*machine).tellCalls},
		"place":   {"n", (*machine).tellPlace},
		"shard":   {"nn", (*machine).tellShard},
		"status":  {"nn", (*machine).tellStatus},
		"bag":     {"nn", func(m *machine, a arguments) { m.tell(m.cluster.Bag(a.numbers[0], a.numbers[1])) }},
		"check":   {"", (*machine).tellCheck},
	}
	for word, kind := range map[string]api.StepKind{"tick": api.StepTick, "crash": api.StepCrash, "trip": api.StepTrip, "full": api.StepFull} {
		m[word] = row{"nn", func(m *machine, a arguments) {
			m.step(api.Step{Kind: kind, Node: a.numbers[0], N: a.numbers[1]})
		}}
	}
	for word, kind := range map[string]api.StepKind{"deliver": api.StepDeliver, "drop": api.StepDrop, "double": api.StepDouble} {
		m[word] = row{"nnn", func(m *machine, a arguments) {
			m.step(api.Step{Kind: kind, Node: a.numbers[0], To: a.numbers[1], At: a.numbers[2]})
		}}
	}
	for word, c := range calls() {
		m[word] = row{c.form, func(m *machine, a arguments) {
			m.step(api.Step{Kind: api.StepCall, Node: a.numbers[0], Call: c.call(a)})
		}}
	}
	return m
}

// caller is a row whose line is a call of a client.
type caller struct {
	form string
	call func(arguments) api.Call
}

func calls() map[string]caller {
	admin := func(do func(arguments) api.PlaceCommand) func(arguments) api.Call {
		return func(a arguments) api.Call {
			c := do(a)
			c.Topic = a.words[0]
			return api.Call{Kind: api.CallAdmin, Admin: c}
		}
	}
	return map[string]caller{
		"produce": {"nwww", func(a arguments) api.Call {
			return api.Call{Kind: api.CallProduce, Topic: a.words[0], Key: a.words[1], Value: []byte(a.words[2])}
		}},
		"fetch": {"nwwnn", func(a arguments) api.Call {
			return api.Call{Kind: api.CallFetch, Topic: a.words[0], Key: a.words[1], Offset: uint64(a.numbers[1]), Most: a.numbers[2]}
		}},
		"commit": {"nwwwn", func(a arguments) api.Call {
			return api.Call{Kind: api.CallCommit, Topic: a.words[0], Key: a.words[1], Name: a.words[2], Offset: uint64(a.numbers[1])}
		}},
		"read": {"nwww", func(a arguments) api.Call {
			return api.Call{Kind: api.CallRead, Topic: a.words[0], Key: a.words[1], Name: a.words[2]}
		}},
		"route": {"nw", func(a arguments) api.Call { return api.Call{Kind: api.CallRoute, Topic: a.words[0]} }},
		"create": {"nwl", admin(func(a arguments) api.PlaceCommand {
			return api.PlaceCommand{Kind: api.PlaceCreate, Nodes: a.nodes}
		})},
		"split": {"nwnw", admin(func(a arguments) api.PlaceCommand {
			return api.PlaceCommand{Kind: api.PlaceSplit, Group: uint64(a.numbers[1]), Key: a.words[1]}
		})},
		"merge": {"nwnn", admin(func(a arguments) api.PlaceCommand {
			return api.PlaceCommand{Kind: api.PlaceMerge, Group: uint64(a.numbers[1]), Other: uint64(a.numbers[2])}
		})},
		"move": {"nwnnn", admin(func(a arguments) api.PlaceCommand {
			return api.PlaceCommand{Kind: api.PlaceMove, Group: uint64(a.numbers[1]), From: a.numbers[2], To: a.numbers[3]}
		})},
	}
}

func (m *machine) begin(a arguments) {
	c, e := cluster.New(a.numbers[0], a.numbers[1])
	m.cluster, m.servers, m.clients = c, a.numbers[0], a.numbers[1]
	m.outcome(e)
}

func (m *machine) step(s api.Step) { m.outcome(m.cluster.Do(s)) }

func (m *machine) outcome(e api.Errno) {
	if e == api.OK {
		m.tell("ok")
		return
	}
	m.tell("error ", int(e))
}

func (m *machine) rounds(a arguments) {
	for range a.numbers[0] {
		m.round()
	}
	m.tell("ok")
}

// round lets all clocks tick once, and then packets come till there are none, or too many came.
func (m *machine) round() {
	nodes := m.servers + m.clients
	for n := 1; n <= nodes; n++ {
		timeout := 1
		if n <= m.servers {
			timeout = 10 + 5*n
		}
		if !m.cluster.Down(n) {
			m.cluster.Do(api.Step{Kind: api.StepTick, Node: n, N: timeout})
		}
	}
	left := mostDeliveries
	for came := 1; came > 0 && left > 0; left -= came {
		came = 0
		for from := 1; from <= nodes; from++ {
			for to := 1; to <= nodes; to++ {
				came += m.deliver(from, to, left-came)
			}
		}
	}
}

// deliver lets a link's packets come, as many as there are when it is its turn, and at most so many: how many came.
func (m *machine) deliver(from, to int, most int) int {
	count := min(m.cluster.Bag(from, to), most)
	for range count {
		m.cluster.Do(api.Step{Kind: api.StepDeliver, Node: from, To: to})
	}
	return count
}

func (m *machine) tellCheck(arguments) {
	place, rest := api.Story{}, m.cluster.Stories()
	if len(rest) > 0 && rest[0].Group == 0 {
		place, rest = rest[0], rest[1:]
	}
	e, at := history.Check(place, rest, m.cluster.Dids())
	if e == api.OK {
		m.tell("right")
		return
	}
	m.tell("wrong ", int(e), " ", at)
}
