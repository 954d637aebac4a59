package copies

import "gazette/api"

// PlaceCommand is a copy of a placement's command.
func PlaceCommand(c api.PlaceCommand) api.PlaceCommand {
	c.Nodes = List(c.Nodes)
	return c
}

// Call is a copy of a call.
func Call(c api.Call) api.Call {
	c.Value = List(c.Value)
	c.Admin = PlaceCommand(c.Admin)
	return c
}

// Reply is a copy of a reply.
func Reply(r api.Reply) api.Reply {
	r.Result.Records = Records(r.Result.Records)
	r.Shards = Shards(r.Shards)
	return r
}

// Client is a copy of a client's state.
func Client(c api.Client) api.Client {
	c.Servers = List(c.Servers)
	c.Topics = Topics(c.Topics)
	c.Leaders = List(c.Leaders)
	c.Call = Call(c.Call)
	return c
}

// Did is a copy of a call that was made.
func Did(d api.Did) api.Did {
	d.Call = Call(d.Call)
	d.Reply = Reply(d.Reply)
	return d
}
