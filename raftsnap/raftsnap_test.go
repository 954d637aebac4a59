package raftsnap_test

import (
	"bytes"
	"math"
	"math/rand"
	"reflect"
	"testing"

	"gazette/api"
	"gazette/raftsnap"
)

func snap(size int) api.Snap {
	b := make([]byte, size)
	for i := range b {
		b[i] = byte(i * 7)
	}
	return api.Snap{Index: 5, Term: 3, Conf: api.Conf{Voters: []int{1, 2}, Learners: []int{4}}, Data: b}
}

func TestPiece(t *testing.T) {
	s := snap(100)
	for _, c := range []struct {
		from uint64
		size int
		done bool
		want api.Errno
	}{{0, 64, false, 0}, {36, 64, true, 0}, {35, 64, false, 0}, {64, 36, true, 0}, {100, 0, true, 0}, {101, 0, false, api.ErrArg}, {math.MaxUint64, 0, false, api.ErrArg}} {
		m, e := raftsnap.Piece(s, c.from)
		if e != c.want || len(m.Data) != c.size || m.Done != c.done || e != 0 && !reflect.ValueOf(m).IsZero() {
			t.Error(c, m, e)
			continue
		}
		want := api.Msg{Kind: api.MsgChunk, Index: 5, LogTerm: 3, Conf: s.Conf, Hint: c.from, Data: m.Data, Done: c.done}
		if e == 0 && (!reflect.DeepEqual(m, want) || !bytes.Equal(m.Data, s.Data[c.from:int(c.from)+c.size])) {
			t.Error(c, m)
		}
	}
	m, _ := raftsnap.Piece(s, 0)
	_ = append(m.Data, 99)
	m.Data[0], m.Conf.Voters[0] = 99, 9
	if !reflect.DeepEqual(s, snap(100)) {
		t.Error("a piece shares memory with the whole")
	}
	if m, e := raftsnap.Piece(api.Snap{}, 0); e != 0 || !m.Done || len(m.Data) != 0 {
		t.Error(m, e)
	}
}

func TestTake(t *testing.T) {
	s := snap(100)
	second, _ := raftsnap.Piece(s, 64)
	first, _ := raftsnap.Piece(s, 0)
	old := api.Coming{Index: 4, Term: 3, Data: []byte("old")}
	p, all := raftsnap.Take(old, second)
	if all || p.Index != 5 || p.Term != 3 || len(p.Data) != 0 || string(old.Data) != "old" {
		t.Error(p, all)
	}
	p, all = raftsnap.Take(api.Coming{Index: 5, Term: 2, Data: []byte("old")}, first)
	if all || len(p.Data) != 64 || p.Term != 3 {
		t.Error(p, all)
	}
	roomy := append(make([]byte, 0, 200), p.Data...)
	q, all := raftsnap.Take(api.Coming{Index: 5, Term: 3, Data: roomy}, second)
	if !all || len(q.Data) != 100 || roomy[:65][64] != 0 {
		t.Error(q, all)
	}
	if p, all := raftsnap.Take(q, second); all || len(p.Data) != 100 {
		t.Error("a piece that comes twice", p, all)
	}
	if p, all := raftsnap.Take(q, api.Msg{Index: 5, LogTerm: 3, Hint: 100, Done: true, Kind: api.MsgVote}); !all || len(p.Data) != 100 {
		t.Error("an empty last piece", p, all)
	}
	if p, all := raftsnap.Take(api.Coming{}, api.Msg{}); all || !reflect.ValueOf(p).IsZero() {
		t.Error(p, all)
	}
	c := api.Conf{Voters: []int{7}}
	w := raftsnap.Whole(q, c)
	q.Data[0], c.Voters[0] = 99, 1
	if w.Index != 5 || w.Term != 3 || !bytes.Equal(w.Data, s.Data) || w.Conf.Voters[0] != 7 {
		t.Error(w)
	}
}

func TestPieces(t *testing.T) {
	for n, want := range map[int]int{100: 2, 64: 1, 65: 2, 128: 2, 129: 3, 0: 1, -5: 1, math.MinInt: 1, math.MaxInt: math.MaxInt/64 + 1} {
		if got := raftsnap.Pieces(n); got != want {
			t.Error(n, got)
		}
	}
}

// TestAllPieces plays P9.1: in order, with others of the same snapshot between them.
func TestAllPieces(t *testing.T) {
	random := rand.New(rand.NewSource(1))
	for range 500 {
		s := snap(random.Intn(400))
		var p api.Coming
		count := 0
		for {
			for range random.Intn(4) {
				m, _ := raftsnap.Piece(s, uint64(random.Intn(len(s.Data)+1)))
				if m.Hint != uint64(len(p.Data)) {
					p, _ = raftsnap.Take(p, m)
				}
			}
			m, e := raftsnap.Piece(s, uint64(len(p.Data)))
			if e != 0 {
				t.Fatal(e)
			}
			var all bool
			p, all = raftsnap.Take(p, m)
			count++
			if all {
				break
			}
		}
		if got := raftsnap.Whole(p, s.Conf); !bytes.Equal(got.Data, s.Data) || got.Index != s.Index || count != raftsnap.Pieces(len(s.Data)) {
			t.Fatal(len(got.Data), len(s.Data), count)
		}
	}
}
