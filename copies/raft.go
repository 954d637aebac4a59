package copies

import "gazette/api"

// Conf is a copy of a configuration.
func Conf(c api.Conf) api.Conf {
	return api.Conf{Voters: List(c.Voters), Learners: List(c.Learners)}
}

// Entry is a copy of an entry.
func Entry(x api.Entry) api.Entry {
	x.Data = List(x.Data)
	x.Conf = Conf(x.Conf)
	return x
}

// Entries is a copy of entries.
func Entries(l []api.Entry) []api.Entry {
	size := 0
	for i := range l {
		size += len(l[i].Data)
	}
	r := newRoom(size)
	return Each(l, func(x api.Entry) api.Entry {
		x.Data = r.copied(x.Data)
		x.Conf = Conf(x.Conf)
		return x
	})
}

// Snap is a copy of a snapshot.
func Snap(s api.Snap) api.Snap {
	s.Conf = Conf(s.Conf)
	s.Data = List(s.Data)
	return s
}

// Log is a copy of a group's log.
func Log(l api.Log) api.Log {
	return api.Log{Base: Snap(l.Base), Entries: Entries(l.Entries)}
}

// View is a copy of what is known of a group.
func View(v api.View) api.View {
	v.Log = Log(v.Log)
	return v
}

// Raft is a copy of a node's state in a group.
func Raft(s api.Raft) api.Raft {
	s.Log = Log(s.Log)
	s.Ballots = List(s.Ballots)
	s.Peers = List(s.Peers)
	s.Part.Data = List(s.Part.Data)
	return s
}
