package broker

import (
	"slices"

	"gazette/api"
	"gazette/codec"
	"gazette/multiraft"
	"gazette/partfsm"
)

const (
	// newEnough is for how many ticks a report counts: two that are lost in a row do no harm.
	newEnough = 3 * api.ReportLast
	// toldFor is for how many ticks reports tell of a group that was destroyed; whoever has not heard it then orders it again.
	toldFor = 6 * api.ReportLast
)

// report is what a node has.
type report struct {
	came  int // the tick here at which it came
	live  []uint64
	gone  []uint64
	leads []led
}

// led is a group that the reporting node leads.
type led struct {
	group   uint64
	term    uint64
	conf    api.Conf
	settled bool   // all of its log is committed, so the configuration is
	frozen  uint64 // by which plan its shard is
}

// own is this node's report.
func (b *Broker) own(h *multiraft.Host) report {
	r := report{came: b.ticks, live: h.Groups()}
	for group, when := range b.destroyed {
		if b.ticks-when > toldFor {
			delete(b.destroyed, group)
		} else {
			r.gone = append(r.gone, group)
		}
	}
	slices.Sort(r.gone)
	for _, group := range r.live {
		s, _ := h.Status(group)
		if s.Role != api.Leader {
			continue
		}
		l := led{group: group, term: s.Hard.Term, conf: s.Conf, settled: s.Hard.Commit == s.Last}
		if x := b.shards[group]; x != nil {
			l.frozen = x.part.Frozen
		}
		r.leads = append(r.leads, l)
	}
	return r
}

func (r report) bytes() []byte {
	w := &codec.Writer{}
	writeGroups(w, r.live)
	writeGroups(w, r.gone)
	w.Uint(uint64(len(r.leads)))
	for _, l := range r.leads {
		w.Uint(l.group)
		w.Uint(l.term)
		w.Conf(l.conf)
		w.Bool(l.settled)
		w.Uint(l.frozen)
	}
	return w.Done()
}

func writeGroups(w *codec.Writer, l []uint64) {
	w.Uint(uint64(len(l)))
	for _, group := range l {
		w.Uint(group)
	}
}

func readGroups(r *codec.Reader) []uint64 {
	var l []uint64
	for range r.Count(api.MaxFrame) {
		l = append(l, r.Uint())
	}
	return l
}

// takeReport takes another server's report in the stead of the one that was there.
func (b *Broker) takeReport(p api.Packet) api.Errno {
	r := codec.NewReader(p.Data)
	x := report{came: b.ticks, live: readGroups(r), gone: readGroups(r)}
	for range r.Count(api.MaxFrame) {
		x.leads = append(x.leads, led{group: r.Uint(), term: r.Uint(), conf: r.Conf(), settled: r.Bool(), frozen: r.Uint()})
	}
	if r.Done() != api.OK {
		return api.ErrBrokerWire
	}
	if b.isServer(p.From) {
		b.reports[p.From] = x
	}
	return api.OK
}

// world is what the newest reports tell, by the nodes that made them.
type world map[int]report

// look is the world as this node sees it: what is too old does not count.
func (b *Broker) look(own report) world {
	w := world{b.id: own}
	for node, r := range b.reports {
		if b.ticks-r.came <= newEnough {
			w[node] = r
		} else {
			delete(b.reports, node)
		}
	}
	return w
}

// leader is the node that leads a group, by the report of the newest term; 0: nobody is known to.
func (w world) leader(group uint64) (int, led) {
	node, newest := 0, led{}
	for n := 1; n <= api.MaxNodes; n++ {
		for _, l := range w[n].leads {
			if l.group == group && (node == 0 || l.term > newest.term) {
				node, newest = n, l
			}
		}
	}
	return node, newest
}

// sites are where groups are, in order.
func (w world) sites(groups func(report) []uint64) []api.Site {
	var l []api.Site
	for n := 1; n <= api.MaxNodes; n++ {
		for _, group := range groups(w[n]) {
			l = append(l, api.Site{Group: group, Node: n})
		}
	}
	return l
}

// seen is what is seen for a plan, and whether that is enough to go on with it.
func (w world) seen(x api.Plan) (api.Seen, bool) {
	s := api.Seen{
		Made: w.sites(func(r report) []uint64 { return r.live }),
		Gone: w.sites(func(r report) []uint64 { return r.gone }),
	}
	for _, r := range w {
		for _, l := range r.leads {
			if l.frozen == x.ID {
				s.Frozen = append(s.Frozen, l.group)
			}
		}
	}
	slices.Sort(s.Frozen)
	if x.Kind != api.PlanMove || x.Step > stepRemove {
		return s, true
	}
	node, l := w.leader(x.Group)
	s.Leader, s.Conf = node, l.conf
	// The leader itself refuses a learner that is behind, so asking it is enough.
	s.Ready = true
	// A configuration without the node that comes is older than the plan's earlier steps.
	stale := x.Step == stepRemove && !slices.Contains(l.conf.Voters, x.To)
	return s, node != 0 && l.settled && !stale
}

// takeState takes a frozen shard's state, if a plan has need of it.
func (b *Broker) takeState(p api.Packet) api.Errno {
	r := codec.NewReader(p.Data)
	group := r.Uint()
	data := r.Bytes(api.MaxFrame)
	part, e := partfsm.Read(data)
	if r.Done() != api.OK || e != api.OK {
		return api.ErrBrokerWire
	}
	if b.isServer(p.From) && part.Frozen != 0 && b.needs(group) == part.Frozen {
		b.states[group] = part
	}
	return api.OK
}

// state is the packet by which a frozen shard's state is told.
func (b *Broker) state(to int, group uint64) api.Packet {
	w := &codec.Writer{}
	w.Uint(group)
	w.Bytes(partfsm.Bytes(b.shards[group].part))
	return b.packet(to, api.PacketState, w.Done())
}
