package broker

import (
	"gazette/api"
	"gazette/codec"
	"gazette/partfsm"
	"gazette/placement"
)

// isPart: is a call of this kind a command of a shard's?
func isPart(k api.CallKind) bool { return k >= api.CallProduce && k <= api.CallRead }

// Request and Reply write such; ReadRequest and ReadReply read them.
func Request(r api.Request) []byte {
	var part, admin []byte
	if isPart(r.Kind) {
		part = partfsm.Command(r.Part)
	}
	if r.Kind == api.CallAdmin {
		admin = placement.Command(r.Admin)
	}
	w := &codec.Writer{}
	w.Uint(r.ID)
	w.Int(int(r.Kind))
	w.Uint(r.Group)
	w.Bytes(part)
	w.Bytes(admin)
	w.String(r.Topic)
	return w.Done()
}

// ReadRequest reads a request.
func ReadRequest(b []byte) (api.Request, api.Errno) {
	r := codec.NewReader(b)
	x := api.Request{ID: r.Uint(), Kind: api.CallKind(r.Int()), Group: r.Uint()}
	part, admin := r.Bytes(api.MaxData), r.Bytes(api.MaxData)
	x.Topic = r.String(api.MaxKey)
	if r.Done() != api.OK || !readCommands(&x, part, admin) {
		return api.Request{}, api.ErrBrokerWire
	}
	return x, api.OK
}

// readCommands reads a request's texts; there is none that its kind does not ask for.
func readCommands(x *api.Request, part []byte, admin []byte) bool {
	if len(part) > 0 != isPart(x.Kind) || len(admin) > 0 != (x.Kind == api.CallAdmin) || x.Topic != "" != (x.Kind == api.CallRoute) {
		return false
	}
	var e api.Errno
	switch x.Kind {
	case api.CallProduce, api.CallFetch, api.CallCommit, api.CallRead:
		x.Part, e = partfsm.ReadCommand(part)
		return e == api.OK && int(x.Part.Kind) == int(x.Kind)
	case api.CallAdmin:
		x.Admin, e = placement.ReadCommand(admin)
		if e != api.OK || x.Admin.Kind == api.PlaceStep {
			return false
		}
		fallthrough
	case api.CallRoute:
		return x.Group == 0
	}
	return false
}

// Reply writes a reply.
func Reply(r api.Reply) []byte {
	w := &codec.Writer{}
	w.Uint(r.ID)
	w.Int(int(r.Err))
	w.Int(r.Leader)
	w.Bytes(partfsm.Result(r.Result))
	w.Uint(r.Number)
	w.Uint(uint64(len(r.Shards)))
	for _, s := range r.Shards {
		w.Uint(s.Group)
		w.Range(s.Range)
		w.Uint(s.Epoch)
		writeNodes(w, s.Nodes)
		writeNodes(w, s.Past)
		w.Uint(s.Plan)
	}
	w.Uint(r.Group)
	w.Uint(r.Index)
	w.Uint(r.Term)
	return w.Done()
}

func writeNodes(w *codec.Writer, l []int) {
	w.Uint(uint64(len(l)))
	for _, n := range l {
		w.Int(n)
	}
}

// ReadReply reads a reply.
func ReadReply(b []byte) (api.Reply, api.Errno) {
	r := codec.NewReader(b)
	x := api.Reply{ID: r.Uint(), Err: api.Errno(r.Int()), Leader: r.Int()}
	result, e := partfsm.ReadResult(r.Bytes(api.MaxFrame))
	x.Result = result
	r.Fail(e)
	x.Number = r.Uint()
	for range r.Count(api.MaxShards) {
		x.Shards = append(x.Shards, readShard(r))
	}
	x.Group, x.Index, x.Term = r.Uint(), r.Uint(), r.Uint()
	if r.Done() != api.OK {
		return api.Reply{}, api.ErrBrokerWire
	}
	return x, api.OK
}

func readShard(r *codec.Reader) api.Shard {
	s := api.Shard{Group: r.Uint(), Range: r.Range(), Epoch: r.Uint(), Nodes: readNodes(r), Past: readNodes(r), Plan: r.Uint()}
	if _, e := partfsm.New(s.Range, 1); e != api.OK {
		r.Fail(e)
	}
	return s
}

func readNodes(r *codec.Reader) []int {
	var l []int
	for range r.Count(api.MaxNodes) {
		n := r.Int()
		if !isNode(n) {
			r.Fail(api.ErrBrokerWire)
		}
		l = append(l, n)
	}
	return l
}

func isNode(n int) bool { return n >= 1 && n <= api.MaxNodes }
