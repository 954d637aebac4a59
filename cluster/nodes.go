package cluster

import (
	"slices"

	"gazette/api"
	"gazette/broker"
	"gazette/client"
	"gazette/multiraft"
	"gazette/placement"
	"gazette/simdisk"
)

// server is a node with a disk; up, it has a host and a broker.
type server struct {
	node
	all    []int
	disk   *simdisk.Disk
	host   *multiraft.Host // nil: it is down
	broker *broker.Broker
	keep   int // bytes of each file that its crash keeps, of what was not synced
}

func newServer(n node, all []int) *server {
	disk, _ := simdisk.New(diskRoom)
	s := &server{node: n, all: all, disk: disk}
	s.start()
	if n.id <= voters {
		c := api.Conf{Voters: all[:min(len(all), voters)]}
		s.host.Create(0, c, placement.Bytes(placement.New()))
	}
	return s
}

// start makes a host and a broker of what the disk has; a server whose disk the host refuses stays down.
func (s *server) start() {
	h, e := multiraft.New(s.id, s.disk)
	if e != api.OK {
		return
	}
	s.host = h
	s.broker, _ = broker.New(s.id, s.all)
}

// stop lets a server be down; its crash keeps so many bytes of what was not synced.
func (s *server) stop(keep int) { s.host, s.broker, s.keep = nil, nil, keep }

func (s *server) rise() {
	s.disk.Crash(slices.Repeat([]int{s.keep}, api.MaxFiles))
	s.start()
}

// receive gives a packet to whom it belongs: what goes out by that.
func (s *server) receive(p api.Packet) []api.Packet {
	if p.Kind == api.PacketRaft || p.Kind == api.PacketBeat {
		s.host.Receive(p)
		return nil
	}
	out, _ := s.broker.Receive(s.host, p)
	return out
}

// round is what each step of a server ends with: what waits is made last, then all that is to go out goes.
func (c *Cluster) round(s *server, out []api.Packet) {
	packets, told, e := s.host.Round()
	if e != api.OK {
		s.stop(0)
		return
	}
	c.record(told)
	s.send(out)
	s.send(packets)
	s.send(s.broker.Told(told))
}

// caller is a client on its node.
type caller struct {
	node
	state api.Client
	calls uint64
	did   int // the place of the call that is under way
}

func newCaller(n node, all []int) *caller {
	state, _ := client.New(n.id, all, uint64(n.id))
	return &caller{node: n, state: state}
}

// give gives a client an input, and does what it puts out.
func (c *Cluster) give(x *caller, in api.ClientInput) api.Errno {
	state, out, e := client.Step(x.state, in)
	if e != api.OK {
		return e
	}
	x.state = state
	if in.Kind == api.ClientCall {
		c.begin(x, in.Call)
	}
	if out.Send {
		x.send([]api.Packet{{From: x.id, To: out.To, Kind: api.PacketRequest, Data: broker.Request(out.Request)}})
	}
	if out.Done {
		c.dids[x.did].Ended, c.dids[x.did].Reply = c.steps, out.Reply
	}
	return api.OK
}
