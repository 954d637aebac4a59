package console_test

import (
	"fmt"
	"math/rand"
	"strings"
	"testing"

	"gazette/api"
	"gazette/console"
)

func script(lines ...string) string { return strings.Join(lines, "\n") + "\n" }

func expect(t *testing.T, s string, want ...string) {
	t.Helper()
	got, e, line := console.Run(s)
	if e != api.OK || line != 0 || got != script(want...) {
		t.Errorf("%v %d\n%s not\n%s", e, line, got, script(want...))
	}
}

func refused(t *testing.T, s string, want api.Errno, at int) {
	t.Helper()
	if got, e, line := console.Run(s); got != "" || e != want || line != at {
		t.Errorf("%.60q: %v %d, not %v %d", s, e, line, want, at)
	}
}

func TestExamples(t *testing.T) {
	expect(t, script("cluster 3 1", "create 4 t 1,2,3", "rounds 30", "produce 4 t k v", "rounds 30", "calls", "check"),
		"ok", "ok", "ok", "ok", "ok", "call 4 1: number 1", "call 4 2: offset 0", "right")
	refused(t, "", api.ErrConsoleLine, 0)
	refused(t, "tick 1 1", api.ErrConsoleLine, 1)
	refused(t, "cluster 9 1", api.ErrConsoleLine, 1)
	refused(t, script("cluster 1 0", "rise"), api.ErrConsoleLine, 2)
	expect(t, "cluster 1 0\nrise 1\ncrash 1 0\nplace 1", "ok", "error 222", "ok", "nothing")
}

func TestLinesThatAreNone(t *testing.T) {
	for _, line := range []string{
		"cluster 1 1", "Tick 1 1", "tick", "tick 1", "tick 1 1 1", "tick 01 1", "tick -1 1", "tick +1 1", "tick x 1", "tick 1 1234567890", "heal 1", "part", "deliver 1 2", "rounds", "rounds 61", "rounds x", "tick\t1 1", "tick 1 1\r", "tick 1 é", "\t",
		"create 2 t", "create 2 t 1,", "create 2 t ,1", "create 2 t 1,,2", "create 2 t 1, 2", "create 2 t 01", "create x t 1", "produce 2 t k", "produce 2 t k v w", "produce t k v", "fetch 2 t k 1", "fetch 2 t k x 1", "commit 2 t k c", "read 2 t k", "route 2", "split 2 t x k", "split 2 t 1", "merge 2 t 1 x", "move 2 t 1 1", "calls 1", "place", "shard 1", "status 1", "bag 1", "check 1", "status 1 x", "nothing 1",
	} {
		refused(t, script("", "# a remark", "cluster 1 1", "heal", line, "also none"), api.ErrConsoleLine, 5)
	}
	for _, first := range []string{"heal", "cluster 0 0", "cluster 6 0", "cluster 1 3", "cluster 1", "cluster 1 1 1", "cluster 01 1", "cluster x 1"} {
		refused(t, script("", "  ", "#cluster 1 1", first, "cluster 1 1"), api.ErrConsoleLine, 4)
	}
	refused(t, script("", "# no more"), api.ErrConsoleLine, 0)
	refused(t, script("cluster 1 0", "rounds 30", "rounds 30", "rounds 1"), api.ErrConsoleLine, 4)
	refused(t, script("cluster 1 0", "rounds 999999999", "rounds 999999999"), api.ErrConsoleLine, 2)
	expect(t, script("cluster 1 0", "rounds 30", "rounds 30", "rounds 0"), "ok", "ok", "ok", "ok")
	expect(t, "\n #x\n  cluster  1   0 \n# é\x01\n   heal", "ok", "ok")
}

func TestScriptsThatAreLong(t *testing.T) {
	head := "cluster 1 0\n"
	refused(t, head+strings.Repeat("\n", api.MaxLines), api.ErrConsoleLong, 0)
	expect(t, head+strings.Repeat("\n", api.MaxLines-1), "ok")
	expect(t, head+strings.Repeat("\n", api.MaxLines-2)+"heal", "ok", "ok")
	refused(t, head+strings.Repeat("\n", api.MaxLines-1)+"heal", api.ErrConsoleLong, 0)
	refused(t, head+"#"+strings.Repeat("x", api.MaxScript), api.ErrConsoleLong, 0)
	expect(t, head+"#"+strings.Repeat("x", api.MaxScript-len(head)-1), "ok")
	refused(t, strings.Repeat("x\n", api.MaxLines+1), api.ErrConsoleLong, 0)
}

func TestWhatIsTold(t *testing.T) {
	got, e, _ := console.Run(script(
		"cluster 1 2", "place 1", "shard 1 1", "status 1 1", "status 1 0", "bag 2 1",
		"create 2 t 1", "bag 2 1", "create 2 t 1", "create 9 t 1", "tick 9 1", "deliver 1 1 0", "produce 3 T k v",
		"rounds 38", "produce 2 t b% v~", "rounds 2", "produce 3 t a w", "rounds 1", "commit 3 t a c-1 2", "rounds 1", "read 3 t a c-1", "rounds 1", "read 3 t a d", "rounds 1",
		"fetch 2 t a 0 9", "rounds 1", "route 2 t", "rounds 1", "fetch 2 t a 7 1", "rounds 1", "split 2 t 1 m", "rounds 6", "fetch 2 u a 0 1",
		"calls", "place 1", "shard 1 1", "status 1 1", "check",
	))
	want := script(
		"ok", "", "nothing", "nothing", "role 1 leader 0 term 1 commit 1 last 1 base 1 voters 1 learners -", "0",
		"ok", "1", "error 211", "error 222", "error 222", "error 222", "error 212",
		"ok", "ok", "ok", "ok", "ok", "ok", "ok", "ok", "ok", "ok", "ok",
		"ok", "ok", "ok", "ok", "ok", "ok", "ok", "ok", "ok",
		"call 2 1: number 1", "call 2 2: offset 0", "call 3 1: offset 1", "call 3 2: done", "call 3 3: offset 2", "call 3 4: none",
		"call 2 3: next 2 b%25=v~ a=w", "call 2 4: shards 1", "call 2 5: error 141", "call 2 6: number 1", "call 2 7: open",
		"topic t", "shard 1 - - epoch 1 nodes 1 plan 1",
		"state - - epoch 1 frozen 1", "0 b%25 v~ by 2 2", "1 a w by 3 1", "producer 2 2 at 0", "producer 3 2", "consumer c-1 2",
	)
	want = strings.Replace(want, "ok\n\nnothing", "ok\nnothing", 1)
	head, tail, _ := strings.Cut(got, "consumer c-1 2\n")
	if e != api.OK || head+"consumer c-1 2\n" != want || !strings.HasPrefix(tail, "role 4 leader 1 term 2 commit ") || !strings.HasSuffix(tail, "\nright\n") {
		t.Errorf("%v\n%s\nnot\n%s", e, got, want)
	}
}

func TestStepsByHand(t *testing.T) {
	expect(t, script("cluster 2 0", "tick 1 1", "bag 1 2", "double 1 2 1", "bag 1 2", "drop 1 2 2", "bag 1 2", "deliver 1 2 1", "bag 1 2", "bag 2 1", "part 1", "tick 1 1", "bag 1 2", "heal", "tick 1 1", "bag 1 2"),
		"ok", "ok", "2", "ok", "3", "ok", "2", "ok", "1", "1", "ok", "ok", "1", "ok", "ok", "2")
	for _, line := range []string{"trip 1 0", "trip 1 1", "full 1 0"} {
		expect(t, script("cluster 1 0", line, "tick 1 1", "status 1 0", "crash 1 0", "rise 1", "rise 1", "status 1 0", "tick 1 1", "status 1 0", "trip 2 0", "crash 1 7", "rise 1", "status 1 0"),
			"ok", "ok", "ok", "nothing", "error 222", "ok", "error 222", "role 1 leader 0 term 1 commit 1 last 1 base 1 voters 1 learners -", "ok", "role 4 leader 1 term 2 commit 2 last 2 base 1 voters 1 learners -",
			"error 222", "ok", "ok", "role 1 leader 0 term 2 commit 2 last 2 base 1 voters 1 learners -")
	}
}

// randomScript is lines of any kind, near to what there is.
func randomScript(random *rand.Rand) []string {
	servers, clients := 1+random.Intn(5), 1+random.Intn(2)
	lines := []string{fmt.Sprintf("cluster %d %d", servers, clients), "rounds 15", fmt.Sprintf("create %d t 1", servers+1), "rounds 8"}
	left := 37
	n := func(most int) int { return 1 + random.Intn(most) }
	for range 120 {
		client, server, key := servers+n(clients), n(servers), string(rune('a'+random.Intn(9)))
		forms := []string{
			fmt.Sprintf("produce %d t %s v%d", client, key, n(9)), fmt.Sprintf("produce %d t %s w", client, key), fmt.Sprintf("fetch %d t %s 0 9", client, key), fmt.Sprintf("commit %d t %s c %d", client, key, random.Intn(3)), fmt.Sprintf("read %d t %s c", client, key), fmt.Sprintf("route %d t", client),
			fmt.Sprintf("split %d t %d %s", client, n(6), key), fmt.Sprintf("move %d t %d 1 %d", client, n(6), server), fmt.Sprintf("merge %d t %d %d", client, n(6), n(6)), fmt.Sprintf("tick %d %d", n(servers+clients), n(20)),
			fmt.Sprintf("deliver %d %d 0", n(servers+clients), n(servers+clients)), fmt.Sprintf("drop %d %d 0", server, n(servers)), fmt.Sprintf("double %d %d 0", server, n(servers)), fmt.Sprintf("crash %d %d", server, n(50)), fmt.Sprintf("rise %d", server), fmt.Sprintf("rise %d", server), fmt.Sprintf("part %d", n(60)), "heal", fmt.Sprintf("trip %d %d", server, n(6)), fmt.Sprintf("full %d %d", server, n(6)), "check", "calls", fmt.Sprintf("place %d", server), fmt.Sprintf("shard %d %d", server, n(5)),
		}
		if line := forms[random.Intn(len(forms))]; random.Intn(3) > 0 {
			lines = append(lines, line)
		} else if k := n(3); k <= left {
			left -= k
			lines = append(lines, fmt.Sprintf("rounds %d", k))
		}
	}
	return append(lines, "check")
}

// TestPromises plays P24.2 and P24.3.
func TestPromises(t *testing.T) {
	random := rand.New(rand.NewSource(1))
	for range 60 {
		lines := randomScript(random)
		got, e, at := console.Run(script(lines...))
		if e != api.OK {
			t.Fatal(e, at, lines[at-1])
		}
		if strings.Contains(got, "wrong") || !strings.HasSuffix(got, "right\n") {
			t.Fatal(strings.Join(lines, "\n"), got)
		}
		if again, _, _ := console.Run(script(lines...)); again != got {
			t.Fatal("played twice, it tells something else")
		}
		some := lines[:1+random.Intn(len(lines))]
		if begin, _, _ := console.Run(script(some...)); !strings.HasPrefix(got, begin) {
			t.Fatal("a longer script does not tell more")
		}
	}
}

// TestCalm plays P24.4.
func TestCalm(t *testing.T) {
	for servers := 1; servers <= 5; servers++ {
		for clients := 1; clients <= 2; clients++ {
			c := servers + clients
			for _, call := range []string{
				"produce %d t k v", "fetch %d t k 0 1", "commit %d t k c 0", "read %d t k c", "route %d t", "create %d t 1,2", "create %d t 7", "split %d t 1 m", "merge %d t 1 2", "move %d t 1 1 2",
			} {
				got, e, _ := console.Run(script(fmt.Sprintf("cluster %d %d", servers, clients), fmt.Sprintf(call, c), "rounds 60", "calls"))
				if e != api.OK || strings.Contains(got, "open") || !strings.Contains(got, "call ") {
					t.Error(servers, clients, call, got, e)
				}
			}
		}
	}
}
