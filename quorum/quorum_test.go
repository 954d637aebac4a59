package quorum_test

import (
	"math"
	"math/rand"
	"slices"
	"testing"

	"gazette/api"
	"gazette/quorum"
)

func TestMost(t *testing.T) {
	for n, want := range map[int]int{-1: 0, math.MinInt: 0, 0: 0, 1: 1, 2: 2, 3: 2, 4: 3, 5: 3, 7: 4, math.MaxInt: math.MaxInt/2 + 1} {
		if got := quorum.Most(n); got != want {
			t.Error(n, got)
		}
	}
}

func TestHas(t *testing.T) {
	for i, c := range []struct {
		voters, some []int
		want         bool
	}{
		{nil, nil, false}, {nil, []int{1}, false}, {[]int{1}, []int{1}, true}, {[]int{1, 2, 3}, []int{1}, false}, {[]int{1, 2, 3}, []int{3, 1}, true},
		{[]int{1, 2, 3}, []int{1, 1, 1}, false}, {[]int{1, 1, 2}, []int{1}, false}, {[]int{1, 1, 2}, []int{2, 1}, true}, {[]int{1, 1}, []int{1}, true},
		{[]int{1, 2, 3, 4}, []int{1, 2, 9, 8}, false}, {[]int{1, 2, 3, 4}, []int{4, 1, 2}, true}, {[]int{-5}, []int{-5}, true},
	} {
		if quorum.Has(c.voters, c.some) != c.want {
			t.Error(i)
		}
	}
}

func ballots(nodes ...int) []api.Ballot {
	var l []api.Ballot
	for _, n := range nodes {
		l = append(l, api.Ballot{Node: max(n, -n), Yes: n > 0})
	}
	return l
}

func TestTally(t *testing.T) {
	for i, c := range []struct {
		voters  []int
		ballots []api.Ballot
		want    int
	}{
		{[]int{1, 2, 3}, ballots(1, -2), 0}, {[]int{1, 2, 3}, ballots(1, -2, -3), -1}, {[]int{1, 2, 3}, ballots(1, -2, 3), 1},
		{nil, ballots(1), 0}, {nil, nil, 0}, {[]int{1}, ballots(1), 1}, {[]int{1}, ballots(-1), -1}, {[]int{1}, ballots(2), 0},
		{[]int{1, 2, 3}, ballots(1, 1, 4, 5), 0}, {[]int{1, 2, 3}, ballots(-1, 1, 2, 3), 1}, {[]int{1, 2, 3}, ballots(-1, 1, 2), 0}, {[]int{1, 2, 3}, ballots(1, -1, 2), 1},
		{[]int{1, 2, 3, 4}, ballots(1, 2, -3), 0}, {[]int{1, 2, 3, 4}, ballots(1, 2, -3, -4), -1}, {[]int{1, 2, 3, 4}, ballots(-3, -4), -1}, {[]int{1, 1, 2, 2}, ballots(1, 2), 1},
	} {
		if got := quorum.Tally(c.voters, c.ballots); got != c.want {
			t.Error(i, got)
		}
	}
}

func peers(matches ...uint64) []api.Peer {
	var l []api.Peer
	for i, m := range matches {
		l = append(l, api.Peer{Node: i + 1, Match: m, Next: 99})
	}
	return l
}

func TestCommit(t *testing.T) {
	for i, c := range []struct {
		voters []int
		peers  []api.Peer
		want   uint64
	}{
		{[]int{1, 2, 3}, peers(7, 4), 4}, {nil, peers(7), 0}, {[]int{1}, peers(7), 7}, {[]int{1, 2}, peers(7), 0}, {[]int{1, 2, 3, 4}, peers(7, 6, 5, 4), 5},
		{[]int{1, 2, 3, 4, 5}, peers(9, 8, 3, 2, 1), 3}, {[]int{1, 2, 2}, peers(7, 4), 4}, {[]int{2}, peers(7, 4), 4},
		{[]int{1}, append(peers(3), api.Peer{Node: 1, Match: 8}, api.Peer{Node: 1, Match: 2}), 8}, {[]int{1, 2, 3}, peers(math.MaxUint64, math.MaxUint64), math.MaxUint64},
	} {
		if got := quorum.Commit(c.voters, c.peers); got != c.want {
			t.Error(i, got)
		}
	}
}

func TestNothingIsChanged(t *testing.T) {
	voters, some, p := []int{3, 1, 2, 1}, []int{2, 3, 1}, peers(1, 9, 4)
	quorum.Has(voters, some)
	quorum.Tally(voters, ballots(1, -2))
	quorum.Commit(voters, p)
	if !slices.Equal(voters, []int{3, 1, 2, 1}) || !slices.Equal(some, []int{2, 3, 1}) || !slices.Equal(p, peers(1, 9, 4)) {
		t.Error(voters, some, p)
	}
}

func randomNodes(random *rand.Rand) []int {
	var l []int
	for range random.Intn(7) {
		l = append(l, 1+random.Intn(7))
	}
	return l
}

// TestPromises plays P7.1 to P7.3.
func TestPromises(t *testing.T) {
	random := rand.New(rand.NewSource(1))
	for range 20000 {
		voters, a, b := randomNodes(random), randomNodes(random), randomNodes(random)
		more := append(slices.Clone(voters), 1+random.Intn(7))
		for _, others := range [][]int{voters, more} {
			if quorum.Has(voters, a) && quorum.Has(others, b) && !slices.ContainsFunc(a, func(n int) bool { return slices.Contains(b, n) }) {
				t.Fatal("they do not meet", voters, others, a, b)
			}
		}
		var l []api.Ballot
		decided := 0
		for range 10 {
			l = append(l, api.Ballot{Node: 1 + random.Intn(7), Yes: random.Intn(2) == 0})
			now := quorum.Tally(voters, l)
			if decided != 0 && now != decided {
				t.Fatal("decided otherwise", voters, l)
			}
			decided = now
		}
		var p []api.Peer
		for range 6 {
			p = append(p, api.Peer{Node: 1 + random.Intn(7), Match: uint64(random.Intn(5))})
		}
		before := quorum.Commit(voters, p)
		p[random.Intn(6)].Match += uint64(random.Intn(3))
		if quorum.Commit(voters, p) < before {
			t.Fatal("Commit fell", voters, p)
		}
	}
}
