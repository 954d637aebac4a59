package multiraft_test

import (
	"math/rand"
	"reflect"
	"slices"
	"testing"

	"gazette/api"
	"gazette/multiraft"
	"gazette/simdisk"
)

// hosts are nodes with their disks, packets under way, and what was seen of them.
type hosts struct {
	t       *testing.T
	random  *rand.Rand
	disks   []*simdisk.Disk
	nodes   []*multiraft.Host // nil: it is down
	bag     []api.Packet
	leaders map[[2]uint64]int         // by groups and terms
	told    map[[2]uint64]api.Applied // by groups and indexes
	last    []map[uint64]uint64       // of each node what was told last, by groups
	hard    []map[uint64]api.Hard
}

const nodes = 3

func newHosts(t *testing.T, random *rand.Rand, groups int) *hosts {
	c := &hosts{t: t, random: random, leaders: map[[2]uint64]int{}, told: map[[2]uint64]api.Applied{}}
	for id := 1; id <= nodes; id++ {
		c.disks = append(c.disks, disk(t))
		c.nodes = append(c.nodes, host(t, id, c.disks[id-1]))
		c.last = append(c.last, map[uint64]uint64{})
		c.hard = append(c.hard, map[uint64]api.Hard{})
		for g := range uint64(groups) {
			ok(t, c.nodes[id-1].Create(g, voters(1, 2, 3), []byte("seed")))
		}
		c.round(id - 1)
	}
	return c
}

func (c *hosts) round(i int) {
	packets, told, e := c.nodes[i].Round()
	if e != api.OK {
		c.nodes[i] = nil
		return
	}
	c.bag = append(c.bag, packets...)
	for _, a := range told {
		if a.Index <= c.last[i][a.Group] {
			c.t.Fatal("told twice", i, a)
		}
		c.last[i][a.Group] = a.Index
		key := [2]uint64{a.Group, a.Index}
		if b, ok := c.told[key]; ok && !a.Snapshot && !reflect.DeepEqual(a, b) {
			c.t.Fatal("told otherwise", a, b)
		}
		if !a.Snapshot {
			c.told[key] = a
		}
	}
	c.look(i)
}

// look holds a node against P12.1 and P12.2.
func (c *hosts) look(i int) {
	for _, g := range c.nodes[i].Groups() {
		s, _ := c.nodes[i].Status(g)
		old := c.hard[i][g]
		if s.Hard.Term < old.Term || s.Hard.Commit < old.Commit || s.Hard.Term == old.Term && old.Vote != 0 && s.Hard.Vote != old.Vote {
			c.t.Fatal("something that was kept is lost", i, g, old, s.Hard)
		}
		c.hard[i][g] = s.Hard
		if s.Role != api.Leader {
			continue
		}
		key := [2]uint64{g, s.Hard.Term}
		if other := c.leaders[key]; other != 0 && other != i+1 {
			c.t.Fatal("two leaders of a term", key, other, i+1)
		}
		c.leaders[key] = i + 1
	}
}

func (c *hosts) rise(i int) {
	if c.nodes[i] == nil {
		keep := make([]int, 9)
		for k := range keep {
			keep[k] = c.random.Intn(300)
		}
		c.disks[i].Crash(keep)
		c.nodes[i] = host(c.t, i+1, c.disks[i])
		c.last[i] = map[uint64]uint64{}
		c.round(i)
	}
}

func (c *hosts) deliver(at int) {
	p := c.bag[at]
	c.bag = slices.Delete(c.bag, at, at+1)
	if h := c.nodes[p.To-1]; h != nil {
		ok(c.t, h.Receive(p))
		c.round(p.To - 1)
	}
}

func (c *hosts) play(groups int) {
	i := c.random.Intn(nodes)
	h := c.nodes[i]
	switch n := c.random.Intn(100); {
	case n < 55:
		if len(c.bag) > 0 {
			at := c.random.Intn(len(c.bag)) * c.random.Intn(2)
			switch c.random.Intn(12) {
			case 0:
				c.bag = slices.Delete(c.bag, at, at+1)
			case 1:
				c.bag = append(c.bag, c.bag[at])
			default:
				c.deliver(at)
			}
		}
	case h == nil:
		if c.random.Intn(3) == 0 {
			c.rise(i)
		}
	case n < 80:
		ok(c.t, h.Tick(1+c.random.Intn(12)))
		c.round(i)
	case n < 92:
		h.Propose(uint64(c.random.Intn(groups)), make([]byte, c.random.Intn(200)))
		c.round(i)
	case n < 95:
		g := uint64(c.random.Intn(groups))
		if e := h.Compact(g, c.last[i][g], make([]byte, c.random.Intn(150))); e != api.OK && e != api.ErrLogGap {
			c.t.Fatal(e)
		}
		c.round(i)
	case n < 97:
		h.Transfer(uint64(c.random.Intn(groups)), 1+c.random.Intn(nodes))
		c.round(i)
	case n < 99:
		c.disks[i].Trip(c.random.Intn(6))
	default:
		c.nodes[i] = nil
	}
}

// TestWhateverIsLost plays P12.1 to P12.3: crashes that keep whatever they like, packets lost, doubled and late.
func TestWhateverIsLost(t *testing.T) {
	for seed := range int64(16) {
		c := newHosts(t, rand.New(rand.NewSource(seed)), 3)
		for range 1500 {
			c.play(3)
		}
		if len(c.told) < 3 {
			t.Log("little was told by the seed", seed, len(c.told))
		}
		c.calm(3)
	}
}

// calm plays P12.5.
func (c *hosts) calm(groups int) {
	c.t.Helper()
	for i := range c.nodes {
		c.nodes[i] = nil
		c.rise(i)
	}
	proposed := map[uint64]uint64{}
	for range 200 {
		for i, h := range c.nodes {
			ok(c.t, h.Tick(5+5*(i+1)))
			c.round(i)
		}
		for len(c.bag) > 0 {
			c.deliver(0)
		}
		for _, h := range c.nodes {
			for g := range uint64(groups) {
				if index, _, e := h.Propose(g, []byte("calm")); e == api.OK && proposed[g] == 0 {
					proposed[g] = index
				}
			}
		}
	}
	for g := range uint64(groups) {
		for i := range c.nodes {
			if proposed[g] == 0 || c.last[i][g] < proposed[g] {
				c.t.Fatal("it was not told", g, i, proposed[g], c.last[i][g])
			}
		}
	}
}
