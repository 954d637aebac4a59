package simnet_test

import (
	"math/rand"
	"slices"
	"strconv"
	"testing"

	"gazette/api"
	"gazette/simnet"
)

func net(t *testing.T, nodes int) *simnet.Net {
	t.Helper()
	n, e := simnet.New(nodes)
	if e != api.OK {
		t.Fatal(e)
	}
	return n
}

func packet(from, to int, data string) api.Packet {
	return api.Packet{From: from, To: to, Kind: 7, Data: []byte(data)}
}

func bag(t *testing.T, n *simnet.Net, from, to int, want ...string) {
	t.Helper()
	l, e := n.Bag(from, to)
	var got []string
	for _, p := range l {
		got = append(got, string(p.Data))
	}
	if e != api.OK || !slices.Equal(got, want) {
		t.Error(from, to, got, e, want)
	}
}

func TestNew(t *testing.T) {
	for nodes, want := range map[int]api.Errno{0: api.ErrArg, 1: 0, 7: 0, 8: api.ErrArg, -1: api.ErrArg} {
		n, e := simnet.New(nodes)
		if e != want || (n == nil) != (e != api.OK) {
			t.Error(nodes, e)
		}
	}
}

func TestExamples(t *testing.T) {
	n := net(t, 3)
	if n.Send(packet(1, 2, "a")) != 0 || n.Send(packet(1, 2, "b")) != 0 {
		t.Error("Send")
	}
	if p, e := n.Deliver(1, 2, 1); string(p.Data) != "b" || p.From != 1 || p.To != 2 || p.Kind != 7 || e != 0 || n.Len() != 1 {
		t.Error(p, e, n.Len())
	}
	n = net(t, 3)
	if n.Part([]int{1}) != 0 || n.Send(packet(1, 2, "x")) != 0 || n.Send(packet(2, 3, "y")) != 0 {
		t.Error("Part")
	}
	n.Heal()
	bag(t, n, 1, 2)
	bag(t, n, 2, 3, "y")
	if n.Send(packet(1, 1, "")) != api.ErrNetNode {
		t.Error("a link to itself")
	}
	if p, e := n.Deliver(1, 2, 0); e != api.ErrNetNone || p.From != 0 {
		t.Error(p, e)
	}
}

func TestNoSuchNode(t *testing.T) {
	n := net(t, 3)
	for _, l := range [][2]int{{0, 1}, {1, 0}, {4, 1}, {1, 4}, {2, 2}, {-1, 2}} {
		from, to := l[0], l[1]
		_, bagged := n.Bag(from, to)
		_, delivered := n.Deliver(from, to, 0)
		for _, e := range []api.Errno{n.Send(packet(from, to, "")), bagged, delivered, n.Drop(from, to, 0), n.Double(from, to, 0)} {
			if e != api.ErrNetNode {
				t.Error(l, e)
			}
		}
	}
	if n.Lose(0) != api.ErrNetNode || n.Lose(4) != api.ErrNetNode || n.Part([]int{1, 4}) != api.ErrNetNode {
		t.Error("Lose, Part")
	}
}

func TestFull(t *testing.T) {
	n := net(t, 2)
	for i := range api.MaxBag {
		if e := n.Send(packet(1, 2, strconv.Itoa(i))); e != 0 {
			t.Fatal(i, e)
		}
	}
	if n.Send(packet(1, 2, "x")) != api.ErrNetFull || n.Double(1, 2, 0) != api.ErrNetFull || n.Double(1, 2, 64) != api.ErrNetNone || n.Len() != api.MaxBag {
		t.Error("a full bag")
	}
	n.Part([]int{2})
	if n.Send(packet(1, 2, "x")) != 0 {
		t.Error("what is lost by a parting does not need room")
	}
	if n.Drop(1, 2, 3) != 0 || n.Double(1, 2, 0) != 0 {
		t.Error("Double on unlike sides")
	}
}

func TestPlaces(t *testing.T) {
	n := net(t, 2)
	for _, s := range []string{"a", "b", "c"} {
		n.Send(packet(2, 1, s))
	}
	if n.Double(2, 1, 0) != 0 || n.Drop(2, 1, 1) != 0 || n.Drop(2, 1, 3) != api.ErrNetNone || n.Drop(2, 1, -1) != api.ErrNetNone || n.Double(2, 1, -1) != api.ErrNetNone {
		t.Error("places")
	}
	bag(t, n, 2, 1, "a", "c", "a")
	bag(t, n, 1, 2)
}

func TestPartTwiceAndNone(t *testing.T) {
	n := net(t, 4)
	if n.Part([]int{1, 2, 1}) != 0 {
		t.Error("a node twice")
	}
	n.Send(packet(1, 2, "a"))
	n.Send(packet(3, 4, "b"))
	n.Send(packet(2, 3, "c"))
	if n.Part([]int{3, 9}) != api.ErrNetNode {
		t.Error("no such node")
	}
	n.Send(packet(1, 3, "d"))
	if n.Len() != 2 {
		t.Error("a refused parting changed sides")
	}
	n.Part(nil)
	n.Send(packet(1, 3, "e"))
	if n.Len() != 3 {
		t.Error("an empty side")
	}
}

func TestPacketsAreCopied(t *testing.T) {
	n := net(t, 2)
	p := packet(1, 2, "abc")
	n.Send(p)
	p.Data[0] = 'z'
	n.Double(1, 2, 0)
	l, _ := n.Bag(1, 2)
	l[0].Data[1] = 'z'
	bag(t, n, 1, 2, "abc", "abc")
	q, _ := n.Deliver(1, 2, 0)
	q.Data[2] = 'z'
	bag(t, n, 1, 2, "abc")
}

func TestLose(t *testing.T) {
	n := net(t, 3)
	for from := 1; from <= 3; from++ {
		for to := 1; to <= 3; to++ {
			n.Send(packet(from, to, "x"))
		}
	}
	if n.Len() != 6 || n.Lose(2) != 0 || n.Len() != 2 {
		t.Error(n.Len())
	}
	bag(t, n, 1, 3, "x")
	bag(t, n, 3, 1, "x")
}

// TestDeliveredWasSent plays P3.1 and P3.2: each packet comes on its own link, as often at most as it was sent and doubled, and other links stay.
func TestDeliveredWasSent(t *testing.T) {
	random := rand.New(rand.NewSource(1))
	n := net(t, 3)
	may := map[string]int{}
	sizes := map[[2]int]int{}
	for i := range 5000 {
		l := [2]int{1 + random.Intn(3), 1 + random.Intn(3)}
		at := random.Intn(4)
		bag, e := n.Bag(l[0], l[1])
		if e != api.OK {
			continue
		}
		switch random.Intn(4) {
		case 0:
			name := strconv.Itoa(l[0]) + strconv.Itoa(l[1]) + "-" + strconv.Itoa(i)
			if n.Send(packet(l[0], l[1], name)) == 0 {
				may[name]++
				sizes[l]++
			}
		case 1:
			if n.Double(l[0], l[1], at) == 0 {
				may[string(bag[at].Data)]++
				sizes[l]++
			}
		case 2:
			if n.Drop(l[0], l[1], at) == 0 {
				sizes[l]--
			}
		default:
			if p, e := n.Deliver(l[0], l[1], at); e == 0 {
				sizes[l]--
				may[string(p.Data)]--
				if may[string(p.Data)] < 0 || p.From != l[0] || p.To != l[1] || string(p.Data[:2]) != strconv.Itoa(l[0])+strconv.Itoa(l[1]) {
					t.Fatal(p)
				}
			}
		}
		for l, want := range sizes {
			if b, _ := n.Bag(l[0], l[1]); len(b) != want {
				t.Fatal(l, len(b), want)
			}
		}
	}
}
