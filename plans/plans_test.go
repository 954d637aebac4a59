package plans_test

import (
	"fmt"
	"math/rand"
	"reflect"
	"slices"
	"strings"
	"testing"

	"gazette/api"
	"gazette/plans"
)

func split(step int) api.Plan {
	return api.Plan{ID: 1, Kind: api.PlanSplit, Group: 1, Into: []uint64{2, 3}, Nodes: []int{1, 2, 3}, Step: step}
}

func merge(step int) api.Plan {
	return api.Plan{ID: 1, Kind: api.PlanMerge, Group: 2, Other: 3, Into: []uint64{4}, Nodes: []int{1, 2, 3, 4}, Step: step}
}

func move(step int) api.Plan {
	return api.Plan{ID: 1, Kind: api.PlanMove, Group: 5, Nodes: []int{1, 2, 3}, From: 1, To: 4, Step: step}
}

func sites(l ...int) []api.Site {
	var s []api.Site
	for _, n := range l {
		s = append(s, api.Site{Group: uint64(n / 10), Node: n % 10})
	}
	return s
}

func show(l []api.Action) string {
	names := []string{"", "wait", "freeze", "create", "step", "destroy", "change", "transfer"}
	var s []string
	for _, a := range l {
		switch a.Kind {
		case api.ActWait:
			s = append(s, "wait")
		case api.ActStep:
			s = append(s, fmt.Sprintf("step %d", a.Step))
		case api.ActFreeze:
			s = append(s, fmt.Sprintf("freeze %d", a.Group))
		case api.ActChange:
			s = append(s, fmt.Sprintf("change %d:%d %d", a.Group, a.Change.Kind, a.Change.Node))
		default:
			s = append(s, fmt.Sprintf("%s %d on %d", names[a.Kind], a.Group, a.Node))
		}
	}
	return strings.Join(s, ", ")
}

func TestSteps(t *testing.T) {
	for k, want := range map[api.PlanKind]int{api.PlanSplit: 4, api.PlanMerge: 5, api.PlanMove: 5, 0: 0, 4: 0, -1: 0} {
		if plans.Steps(k) != want {
			t.Error(k)
		}
	}
}

func TestNext(t *testing.T) {
	conf := func(voters []int, learners ...int) api.Conf {
		return api.Conf{Voters: voters, Learners: learners}
	}
	for i, c := range []struct {
		p    api.Plan
		s    api.Seen
		want string
	}{
		{split(0), api.Seen{}, "freeze 1"}, {split(0), api.Seen{Frozen: []uint64{2, 1}}, "step 0"}, {split(0), api.Seen{Frozen: []uint64{2}}, "freeze 1"},
		{split(1), api.Seen{Made: sites(21, 22)}, "create 2 on 3, create 3 on 1, create 3 on 2, create 3 on 3"}, {split(1), api.Seen{Made: sites(21, 22, 32, 33)}, "step 1, create 2 on 3, create 3 on 1"},
		{split(1), api.Seen{Made: sites(21, 22, 23, 31, 32, 33)}, "step 1"}, {split(1), api.Seen{Made: sites(21, 21, 24, 25, 31, 32)}, "create 2 on 2, create 2 on 3, create 3 on 3"}, {split(1), api.Seen{}, "create 2 on 1, create 2 on 2, create 2 on 3, create 3 on 1, create 3 on 2, create 3 on 3"},
		{split(2), api.Seen{}, "step 2"}, {split(3), api.Seen{Gone: sites(11)}, "destroy 1 on 2, destroy 1 on 3"}, {split(3), api.Seen{Gone: sites(11, 13)}, "step 3, destroy 1 on 2"}, {split(3), api.Seen{Gone: sites(11, 12, 13)}, "step 3"},
		{merge(0), api.Seen{Frozen: []uint64{3}}, "freeze 2"}, {merge(0), api.Seen{Frozen: []uint64{2}}, "step 0"}, {merge(1), api.Seen{Frozen: []uint64{2}}, "freeze 3"}, {merge(1), api.Seen{Frozen: []uint64{3}}, "step 1"},
		{merge(2), api.Seen{Made: sites(41, 42)}, "create 4 on 3, create 4 on 4"}, {merge(2), api.Seen{Made: sites(41, 42, 44)}, "step 2, create 4 on 3"}, {merge(3), api.Seen{}, "step 3"},
		{merge(4), api.Seen{Gone: sites(21, 22, 23, 31, 32)}, "destroy 2 on 4, destroy 3 on 3, destroy 3 on 4"}, {merge(4), api.Seen{Gone: sites(21, 22, 23, 31, 32, 34)}, "step 4, destroy 2 on 4, destroy 3 on 3"},
		{move(0), api.Seen{}, "create 5 on 4"}, {move(0), api.Seen{Made: sites(54)}, "change 5:1 4"}, {move(0), api.Seen{Made: sites(53)}, "create 5 on 4"}, {move(0), api.Seen{Conf: conf(nil, 4)}, "step 0"}, {move(0), api.Seen{Conf: conf([]int{4})}, "step 0"},
		{move(1), api.Seen{}, "wait"}, {move(1), api.Seen{Conf: conf(nil, 4)}, "wait"}, {move(1), api.Seen{Ready: true}, "wait"}, {move(1), api.Seen{Conf: conf(nil, 4), Ready: true}, "change 5:2 4"}, {move(1), api.Seen{Conf: conf([]int{1, 4})}, "step 1"},
		{move(2), api.Seen{Conf: conf([]int{1, 2, 3, 4}), Leader: 1}, "transfer 5 on 4"}, {move(2), api.Seen{Conf: conf([]int{1, 2, 3, 4}), Leader: 2}, "change 5:3 1"}, {move(2), api.Seen{Conf: conf([]int{2}, 1)}, "change 5:3 1"}, {move(2), api.Seen{Conf: conf([]int{2}), Leader: 1}, "step 2"}, {move(2), api.Seen{}, "step 2"},
		{move(3), api.Seen{}, "step 3"}, {move(4), api.Seen{}, "destroy 5 on 1"}, {move(4), api.Seen{Gone: sites(51)}, "step 4"}, {move(4), api.Seen{Gone: sites(52)}, "destroy 5 on 1"},
	} {
		l, e := plans.Next(c.p, c.s)
		if e != 0 || show(l) != c.want {
			t.Errorf("%d: %q %v, not %q", i, show(l), e, c.want)
		}
	}
}

func TestNoPlan(t *testing.T) {
	for i, do := range []func(p *api.Plan){
		func(p *api.Plan) { p.Kind = 0 }, func(p *api.Plan) { p.Kind = 4 }, func(p *api.Plan) { p.Kind = -1 }, func(p *api.Plan) { p.Step = -1 }, func(p *api.Plan) { p.Step = 4 }, func(p *api.Plan) { p.Nodes = nil }, func(p *api.Plan) { p.Nodes = []int{2, 1} },
		func(p *api.Plan) { p.Nodes = []int{1, 1} }, func(p *api.Plan) { p.Nodes = []int{0} }, func(p *api.Plan) { p.Nodes = []int{1, 8} }, func(p *api.Plan) { p.Into = nil }, func(p *api.Plan) { p.Into = []uint64{1} }, func(p *api.Plan) { p.Into = []uint64{1, 2, 3} }, func(p *api.Plan) { p.Kind = api.PlanMerge },
	} {
		p := split(0)
		do(&p)
		if l, e := plans.Next(p, api.Seen{}); e != api.ErrPlanNone || len(l) != 0 {
			t.Error(i, l, e)
		}
	}
	for _, p := range []api.Plan{merge(5), move(5)} {
		if _, e := plans.Next(p, api.Seen{}); e != api.ErrPlanNone {
			t.Error(p)
		}
	}
	odd := api.Plan{Kind: api.PlanMove, Nodes: []int{7}, From: -9, To: 99}
	if l, e := plans.Next(odd, api.Seen{}); e != 0 || show(l) != "create 0 on 99" {
		t.Error(l, e)
	}
}

// world is what actions make of it.
type world struct {
	seen api.Seen
	plan api.Plan
}

func (w *world) act(a api.Action) {
	s := &w.seen
	switch a.Kind {
	case api.ActFreeze:
		s.Frozen = append(s.Frozen, a.Group)
	case api.ActCreate:
		s.Made = append(s.Made, api.Site{Group: a.Group, Node: a.Node})
	case api.ActDestroy:
		s.Gone = append(s.Gone, api.Site{Group: a.Group, Node: a.Node})
	case api.ActStep:
		w.plan.Step++
	case api.ActTransfer:
		s.Leader = a.Node
	case api.ActChange:
		n := a.Change.Node
		switch a.Change.Kind {
		case api.AddLearner:
			s.Conf.Learners = append(s.Conf.Learners, n)
		case api.Promote:
			s.Conf.Learners, s.Conf.Voters = nil, append(s.Conf.Voters, n)
		case api.Remove:
			s.Conf.Voters = slices.DeleteFunc(s.Conf.Voters, func(m int) bool { return m == n })
		}
	}
}

// TestToItsEnd plays P19.1 and P19.2.
func TestToItsEnd(t *testing.T) {
	for _, p := range []api.Plan{split(0), merge(0), move(0)} {
		w := &world{plan: p, seen: api.Seen{Conf: api.Conf{Voters: []int{1, 2, 3}}, Leader: 1, Ready: true}}
		rounds := 0
		for ; w.plan.Step < plans.Steps(p.Kind); rounds++ {
			l, e := plans.Next(w.plan, w.seen)
			if e != 0 || len(l) == 0 || rounds > 60 {
				t.Fatal(w.plan, l, e)
			}
			for i, a := range l {
				if a.Kind == api.ActStep && (i != 0 || a.Step != w.plan.Step) {
					t.Fatal("a step", l)
				}
			}
			w.act(l[0])
		}
	}
}

// TestMoreIsNoLess plays P19.3.
func TestMoreIsNoLess(t *testing.T) {
	random := rand.New(rand.NewSource(1))
	some := func() []api.Site {
		var l []api.Site
		for range random.Intn(12) {
			l = append(l, api.Site{Group: uint64(1 + random.Intn(5)), Node: 1 + random.Intn(5)})
		}
		return l
	}
	steps := func(p api.Plan, s api.Seen) bool {
		l, _ := plans.Next(p, s)
		return len(l) > 0 && l[0].Kind == api.ActStep
	}
	for range 20000 {
		p := []api.Plan{split(random.Intn(4)), merge(random.Intn(5)), move(random.Intn(5))}[random.Intn(3)]
		s := api.Seen{Made: some(), Gone: some(), Frozen: []uint64{uint64(random.Intn(4))}}
		before, _ := plans.Next(p, s)
		had := steps(p, s)
		more := s
		more.Made, more.Gone, more.Frozen = append(slices.Clone(s.Made), some()...), append(slices.Clone(s.Gone), some()...), append(slices.Clone(s.Frozen), uint64(random.Intn(4)))
		if had && !steps(p, more) {
			t.Fatal(p, s, more)
		}
		if again, _ := plans.Next(p, s); !reflect.DeepEqual(before, again) {
			t.Fatal("another answer")
		}
	}
}
