package raftconf_test

import (
	"math/rand"
	"reflect"
	"slices"
	"testing"

	"gazette/api"
	"gazette/quorum"
	"gazette/raftconf"
)

func conf(voters []int, learners ...int) api.Conf {
	return api.Conf{Voters: voters, Learners: learners}
}

func same(a, b api.Conf) bool {
	return slices.Equal(a.Voters, b.Voters) && slices.Equal(a.Learners, b.Learners)
}

func TestCheck(t *testing.T) {
	for i, c := range []struct {
		c    api.Conf
		want api.Errno
	}{
		{conf([]int{1, 2}, 3), 0}, {conf([]int{7}), 0}, {conf(nil), api.ErrConfLast}, {conf(nil, 1), api.ErrConfLast},
		{conf([]int{0}), api.ErrConfNode}, {conf([]int{1}, 8), api.ErrConfNode}, {conf([]int{2, 1, 9}), api.ErrConfNode}, {conf([]int{-1}), api.ErrConfNode},
		{conf([]int{2, 1}), api.ErrArg}, {conf([]int{1, 1}), api.ErrArg}, {conf([]int{1}, 3, 2), api.ErrArg}, {conf(nil, 2, 2), api.ErrArg}, {conf([]int{1}, 1, 1), api.ErrArg},
		{conf([]int{1, 2}, 2), api.ErrConfThere},
	} {
		if e := raftconf.Check(c.c); e != c.want {
			t.Error(i, e)
		}
	}
}

func TestApply(t *testing.T) {
	c := conf([]int{1, 2}, 3)
	for i, x := range []struct {
		c    api.Conf
		kind api.ChangeKind
		node int
		want api.Conf
		e    api.Errno
	}{
		{c, api.Promote, 3, conf([]int{1, 2, 3}), 0}, {c, api.Remove, 1, conf([]int{2}, 3), 0}, {c, api.Remove, 3, conf([]int{1, 2}), 0}, {c, api.AddLearner, 4, conf([]int{1, 2}, 3, 4), 0},
		{conf([]int{2}, 5), api.AddLearner, 1, conf([]int{2}, 1, 5), 0}, {conf([]int{2, 4}, 3, 5), api.Promote, 3, conf([]int{2, 3, 4}, 5), 0},
		{c, api.AddLearner, 3, api.Conf{}, api.ErrConfThere}, {c, api.AddLearner, 1, api.Conf{}, api.ErrConfThere},
		{c, api.Promote, 1, api.Conf{}, api.ErrConfMissing}, {c, api.Promote, 4, api.Conf{}, api.ErrConfMissing}, {c, api.Remove, 4, api.Conf{}, api.ErrConfMissing},
		{conf([]int{1}, 2), api.Remove, 1, api.Conf{}, api.ErrConfLast}, {conf([]int{1}, 2), api.Remove, 2, conf([]int{1}), 0},
		{c, api.AddLearner, 9, api.Conf{}, api.ErrConfNode}, {c, 9, 0, api.Conf{}, api.ErrConfNode}, {c, 9, 1, api.Conf{}, api.ErrArg}, {c, 0, 1, api.Conf{}, api.ErrArg},
		{conf(nil), 9, 0, api.Conf{}, api.ErrConfLast}, {conf([]int{2, 1}), api.Promote, 9, api.Conf{}, api.ErrArg},
	} {
		got, e := raftconf.Apply(x.c, api.Change{Kind: x.kind, Node: x.node})
		if e != x.e || !same(got, x.want) {
			t.Error(i, got, e)
		}
	}
	if !same(c, conf([]int{1, 2}, 3)) {
		t.Error("what was handed in is changed", c)
	}
	roomy := conf(append(make([]int, 0, 9), 1, 2), 3)
	got, _ := raftconf.Apply(roomy, api.Change{Kind: api.Promote, Node: 3})
	if roomy.Voters[:3][2] != 0 || !same(got, conf([]int{1, 2, 3})) {
		t.Error("spare room is changed")
	}
}

func TestVotesLearnsOthers(t *testing.T) {
	c := conf([]int{3, 1, 3}, 9, 1, -2)
	if !raftconf.Votes(c, 3) || raftconf.Votes(c, 9) || !raftconf.Learns(c, -2) || !raftconf.Learns(c, 1) || raftconf.Learns(c, 3) {
		t.Error("Votes, Learns")
	}
	if l := raftconf.Others(c, 3); !slices.Equal(l, []int{-2, 1, 9}) {
		t.Error(l)
	}
	if l := raftconf.Others(conf([]int{1}), 1); len(l) != 0 {
		t.Error(l)
	}
}

func TestPath(t *testing.T) {
	path, e := raftconf.Path(conf([]int{1, 2}, 3), conf([]int{2, 4}, 1))
	want := []api.Change{{Kind: api.AddLearner, Node: 4}, {Kind: api.Promote, Node: 4}, {Kind: api.Remove, Node: 1}, {Kind: api.Remove, Node: 3}, {Kind: api.AddLearner, Node: 1}}
	if e != 0 || !slices.Equal(path, want) {
		t.Error(path, e)
	}
	for i, c := range []struct {
		from, to api.Conf
		want     api.Errno
	}{{conf([]int{9}), conf(nil), api.ErrConfNode}, {conf([]int{1}), conf(nil), api.ErrConfLast}, {conf(nil), conf([]int{2, 1}), api.ErrConfLast}, {conf([]int{1}), conf([]int{1}), 0}} {
		if path, e := raftconf.Path(c.from, c.to); e != c.want || len(path) != 0 {
			t.Error(i, path, e)
		}
	}
}

func randomConf(random *rand.Rand) api.Conf {
	var c api.Conf
	for n := 1; n <= api.MaxNodes; n++ {
		switch random.Intn(3) {
		case 0:
			c.Voters = append(c.Voters, n)
		case 1:
			c.Learners = append(c.Learners, n)
		}
	}
	if len(c.Voters) == 0 {
		return randomConf(random)
	}
	return c
}

// TestPromises plays P8.1 and P8.2.
func TestPromises(t *testing.T) {
	random := rand.New(rand.NewSource(1))
	for range 5000 {
		from, to := randomConf(random), randomConf(random)
		path, e := raftconf.Path(from, to)
		if e != 0 {
			t.Fatal(e)
		}
		c := from
		for _, x := range path {
			d, e := raftconf.Apply(c, x)
			if e != 0 || raftconf.Check(d) != 0 {
				t.Fatal(from, to, path, x, e)
			}
			a, b := random.Perm(7), random.Perm(7)
			some, others := a[:random.Intn(8)], b[:random.Intn(8)]
			meet := slices.ContainsFunc(some, func(n int) bool { return slices.Contains(others, n) })
			if quorum.Has(c.Voters, some) && quorum.Has(d.Voters, others) && !meet {
				t.Fatal("majorities do not meet", c, d)
			}
			c = d
		}
		if !reflect.DeepEqual(raftconf.Others(c, 0), raftconf.Others(to, 0)) || !same(c, to) {
			t.Fatal(from, to, c)
		}
	}
}
