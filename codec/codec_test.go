package codec_test

import (
	"bytes"
	"encoding/hex"
	"math"
	"math/rand"
	"reflect"
	"testing"

	"gazette/api"
	"gazette/codec"
)

func written(do func(w *codec.Writer)) string {
	w := &codec.Writer{}
	do(w)
	return hex.EncodeToString(w.Done())
}

func TestWriterWritesTheTable(t *testing.T) {
	conf := api.Conf{Voters: []int{1, 2}, Learners: []int{3}}
	for _, c := range []struct {
		want string
		do   func(w *codec.Writer)
	}{
		{"", func(w *codec.Writer) {}},
		{"00", func(w *codec.Writer) { w.Uint(0) }},
		{"7f", func(w *codec.Writer) { w.Uint(127) }},
		{"8001", func(w *codec.Writer) { w.Uint(128) }},
		{"ffffffffffffffffff01", func(w *codec.Writer) { w.Uint(math.MaxUint64) }},
		{"00010203", func(w *codec.Writer) { w.Int(0); w.Int(-1); w.Int(1); w.Int(-2) }},
		{"ffffffffffffffffff01", func(w *codec.Writer) { w.Int(math.MinInt) }},
		{"feffffffffffffffff01", func(w *codec.Writer) { w.Int(math.MaxInt) }},
		{"0100", func(w *codec.Writer) { w.Bool(true); w.Bool(false) }},
		{"026162", func(w *codec.Writer) { w.String("ab") }},
		{"0200ff", func(w *codec.Writer) { w.Bytes([]byte{0, 255}) }},
		{"016100", func(w *codec.Writer) { w.Range(api.Range{Lo: "a"}) }},
		{"0202040106", func(w *codec.Writer) { w.Conf(conf) }},
		{"05020401780" + "202040106", func(w *codec.Writer) {
			w.Entry(api.Entry{Index: 5, Term: 2, Kind: api.EntryData, Data: []byte("x"), Conf: conf})
		}},
		{"070202020401060179", func(w *codec.Writer) {
			w.Snap(api.Snap{Index: 7, Term: 2, Conf: conf, Data: []byte("y")})
		}},
		{"03016b017609ac02", func(w *codec.Writer) {
			w.Record(api.Record{Offset: 3, Key: "k", Value: []byte("v"), Producer: 9, Seq: 300})
		}},
	} {
		if got := written(c.do); got != c.want {
			t.Error(got, c.want)
		}
	}
}

func TestWriterDoneIsNewMemory(t *testing.T) {
	w := &codec.Writer{}
	w.String("ab")
	first := w.Done()
	first[1] = 'z'
	_ = append(first, 1, 2, 3)
	w.Uint(9)
	if got := hex.EncodeToString(w.Done()); got != "02616209" {
		t.Error(got)
	}
}

func TestReaderErrors(t *testing.T) {
	for i, c := range []struct {
		b    string
		do   func(r *codec.Reader)
		want api.Errno
		at   int
	}{
		{"8000", func(r *codec.Reader) { r.Uint() }, api.ErrCodecNumber, 0},
		{"00808000", func(r *codec.Reader) { r.Uint(); r.Uint() }, api.ErrCodecNumber, 1},
		{"80", func(r *codec.Reader) { r.Uint() }, api.ErrCodecShort, 0},
		{"", func(r *codec.Reader) { r.Uint() }, api.ErrCodecShort, 0},
		{"ffffffffffffffffff", func(r *codec.Reader) { r.Uint() }, api.ErrCodecShort, 0},
		{"ffffffffffffffffffff", func(r *codec.Reader) { r.Uint() }, api.ErrCodecNumber, 0},
		{"ffffffffffffffffff02", func(r *codec.Reader) { r.Uint() }, api.ErrCodecNumber, 0},
		{"ffffffffffffffffff00", func(r *codec.Reader) { r.Int() }, api.ErrCodecNumber, 0},
		{"", func(r *codec.Reader) { r.Bool() }, api.ErrCodecShort, 0},
		{"02", func(r *codec.Reader) { r.Bool() }, api.ErrCodecKind, 0},
		{"0104", func(r *codec.Reader) { r.Bool(); r.Bool() }, api.ErrCodecKind, 1},
		{"04000000", func(r *codec.Reader) { r.Count(3) }, api.ErrCodecLong, 0},
		{"04000000", func(r *codec.Reader) { r.Count(4) }, api.ErrCodecShort, 0},
		{"0400000000", func(r *codec.Reader) { r.Count(4) }, api.OK, 0},
		{"00", func(r *codec.Reader) { r.Count(-1) }, api.ErrCodecLong, 0},
		{"ffffffffffffffffff01", func(r *codec.Reader) { r.Count(math.MaxInt) }, api.ErrCodecLong, 0},
		{"00036162", func(r *codec.Reader) { r.Uint(); r.Bytes(9) }, api.ErrCodecShort, 1},
		{"036162", func(r *codec.Reader) { r.String(2) }, api.ErrCodecLong, 0},
		{"0802020202020202020202", func(r *codec.Reader) { r.Conf() }, api.ErrCodecLong, 0},
		{"000802020202020202020202", func(r *codec.Reader) { r.Conf() }, api.ErrCodecLong, 1},
		{"01808000", func(r *codec.Reader) { r.Conf() }, api.ErrCodecNumber, 1},
		{"010108000000", func(r *codec.Reader) { r.Entry() }, api.ErrCodecKind, 2},
		{"010100000000", func(r *codec.Reader) { r.Entry() }, api.ErrCodecKind, 2},
		{"010104818010", func(r *codec.Reader) { r.Entry() }, api.ErrCodecLong, 3},
		{"01010000818010", func(r *codec.Reader) { r.Snap() }, api.ErrCodecLong, 4},
		{"0021" + "00", func(r *codec.Reader) { r.Range() }, api.ErrCodecLong, 1},
		{"0000818002", func(r *codec.Reader) { r.Record() }, api.ErrCodecLong, 2},
		{"0021", func(r *codec.Reader) { r.Record() }, api.ErrCodecLong, 1},
		{"0708", func(r *codec.Reader) { r.Uint(); r.Fail(99); r.Fail(98) }, 99, 1},
		{"0708", func(r *codec.Reader) { r.Fail(api.OK) }, api.OK, 0},
	} {
		b, _ := hex.DecodeString(c.b)
		r := codec.NewReader(b)
		c.do(r)
		e, at := r.Err()
		if e != c.want || at != c.at {
			t.Errorf("%d: %s: %v at %d", i, c.b, e, at)
		}
		if c.want != api.OK {
			behindAnError(t, r, c.want)
		}
	}
}

func behindAnError(t *testing.T, r *codec.Reader, want api.Errno) {
	t.Helper()
	zero := r.Uint() == 0 && r.Int() == 0 && !r.Bool() && r.Count(9) == 0 && len(r.Bytes(9)) == 0 && r.String(9) == ""
	zero = zero && reflect.ValueOf(r.Conf()).IsZero() && reflect.ValueOf(r.Entry()).IsZero() && reflect.ValueOf(r.Snap()).IsZero()
	zero = zero && r.Range() == api.Range{} && reflect.ValueOf(r.Record()).IsZero()
	if !zero || r.Done() != want {
		t.Error("behind an error something is told", want, r.Done())
	}
}

func TestReaderTellsNothingOfWhatItReadInPart(t *testing.T) {
	b, _ := hex.DecodeString("0501047802")
	if x := codec.NewReader(b).Entry(); !reflect.ValueOf(x).IsZero() {
		t.Error(x)
	}
}

func TestReaderDone(t *testing.T) {
	b := []byte{1, 2}
	r := codec.NewReader(b)
	b[0], b[1] = 0x80, 0x80
	if r.Done() != api.ErrCodecRest || r.Uint() != 1 || r.Done() != api.ErrCodecRest || r.Uint() != 2 || r.Done() != api.OK {
		t.Error("Done")
	}
}

func TestFrame(t *testing.T) {
	if codec.Sum([]byte("123456789")) != 0xe3069283 || codec.Sum(nil) != 0 {
		t.Error("Sum")
	}
	if got := hex.EncodeToString(codec.Frame(nil)); got != "0000000000" {
		t.Error(got)
	}
	if got := hex.EncodeToString(codec.Frame([]byte("123456789"))); got != "09313233343536373839839206e3" {
		t.Error(got)
	}
}

func TestUnframe(t *testing.T) {
	f := codec.Frame([]byte("123456789"))
	most := codec.Frame(make([]byte, api.MaxFrame))
	for i, c := range []struct {
		b    []byte
		want api.Errno
	}{
		{nil, api.ErrCodecShort},
		{[]byte{0x80}, api.ErrCodecShort},
		{[]byte{0x80, 0}, api.ErrCodecNumber},
		{[]byte{0x81, 0x80, 0x10}, api.ErrCodecLong},
		{[]byte{0x80, 0x80, 0x10}, api.ErrCodecShort},
		{f[:9], api.ErrCodecShort},
		{f[:13], api.ErrCodecShort},
		{[]byte{0, 0, 0, 0, 1}, api.ErrCodecSum},
		{codec.Frame(make([]byte, api.MaxFrame+1)), api.ErrCodecLong},
		{most, api.OK},
		{f, api.OK},
	} {
		in, rest, e := codec.Unframe(c.b)
		if e != c.want || len(rest) != 0 || e != api.OK && len(in) != 0 {
			t.Error(i, e, len(in), len(rest))
		}
	}
	whole := append(bytes.Clone(f), 7, 8)
	in, rest, e := codec.Unframe(whole)
	if string(in) != "123456789" || !bytes.Equal(rest, []byte{7, 8}) || e != api.OK {
		t.Error(in, rest, e)
	}
	in[0], rest[0] = 0, 0
	_ = append(in[:9], 1, 1)
	if !bytes.Equal(whole, append(bytes.Clone(f), 7, 8)) {
		t.Error("what comes out shares memory with what went in")
	}
}

func TestOneBitOfAFrame(t *testing.T) {
	b := []byte("a frame's sum tells of each bit")
	f := codec.Frame(b)
	for i := range len(f) * 8 {
		g := bytes.Clone(f)
		g[i/8] ^= 1 << (i % 8)
		if in, _, e := codec.Unframe(g); e == api.OK && len(in) == len(b) {
			t.Error("the bit", i)
		}
	}
}

func TestItem(t *testing.T) {
	conf := api.Conf{Voters: []int{1}}
	for want, x := range map[string]api.Item{
		"0605ac02":                     {Kind: api.ItemCut, Group: 5, Index: 300},
		"0a05":                         {Kind: api.ItemGone, Group: 5},
		"0405030402":                   {Kind: api.ItemHard, Group: 5, Hard: api.Hard{Term: 3, Vote: 2, Commit: 2}},
		"02050101020000" + "00":        {Kind: api.ItemEntry, Group: 5, Entry: api.Entry{Index: 1, Term: 1, Kind: api.EntryEmpty}},
		"0805010101" + "02" + "000179": {Kind: api.ItemSnap, Group: 5, Snap: api.Snap{Index: 1, Term: 1, Conf: conf, Data: []byte("y")}},
	} {
		b := codec.Item(x)
		if hex.EncodeToString(b) != want {
			t.Error(hex.EncodeToString(b), want)
		}
		if y, e := codec.ReadItem(b); e != api.OK || !bytes.Equal(codec.Item(y), b) {
			t.Error(y, e)
		}
	}
	other := api.Item{Kind: api.ItemGone, Group: 5, Index: 7, Hard: api.Hard{Term: 1}}
	if y, e := codec.ReadItem(codec.Item(other)); e != api.OK || y.Index != 0 || y.Hard.Term != 0 {
		t.Error("a field that the kind does not name", y, e)
	}
	for _, k := range []api.ItemKind{0, 6, -1} {
		if b := codec.Item(api.Item{Kind: k, Group: 1}); len(b) != 0 {
			t.Error(k, b)
		}
	}
	for in, want := range map[string]api.Errno{
		"": api.ErrCodecShort, "0c": api.ErrCodecKind, "0c00": api.ErrCodecKind, "0100": api.ErrCodecKind, "0000": api.ErrCodecKind,
		"0a0500": api.ErrCodecRest, "0605": api.ErrCodecShort, "02050101080000": api.ErrCodecKind, "0a8000": api.ErrCodecNumber,
	} {
		b, _ := hex.DecodeString(in)
		if y, e := codec.ReadItem(b); e != want || !reflect.ValueOf(y).IsZero() {
			t.Error(in, y, e)
		}
	}
}

// TestReadIsWrittenAgain plays P1.2: whatever bytes are read without an error are just those that are written of it.
func TestReadIsWrittenAgain(t *testing.T) {
	random := rand.New(rand.NewSource(1))
	read := 0
	for range 300000 {
		b := make([]byte, random.Intn(14))
		for i := range b {
			b[i] = byte(random.Intn(5))
		}
		if len(b) > 0 {
			b[0] = byte(random.Intn(7) * 2)
		}
		x, e := codec.ReadItem(b)
		if e != api.OK {
			continue
		}
		read++
		if !bytes.Equal(codec.Item(x), b) {
			t.Fatal(b, x)
		}
	}
	if read < 1000 {
		t.Error("too few items were read:", read)
	}
}

func TestNumbersThereAndBack(t *testing.T) {
	random := rand.New(rand.NewSource(2))
	for range 20000 {
		u := random.Uint64() >> random.Intn(64)
		i := int(random.Uint64()) >> random.Intn(64)
		w := &codec.Writer{}
		w.Uint(u)
		w.Int(i)
		r := codec.NewReader(w.Done())
		if r.Uint() != u || r.Int() != i || r.Done() != api.OK {
			t.Fatal(u, i)
		}
	}
}
