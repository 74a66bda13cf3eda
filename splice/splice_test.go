package splice_test

import (
	"bytes"
	"math"
	"testing"

	"undergrowth/api"
	"undergrowth/splice"
)

const alphabet = "abcdefgh"

// edges are numbers around the bounds of small texts, and those at which sums wrap round.
func edges() []int {
	var all []int
	for x := -3; x <= 8; x++ {
		all = append(all, x)
	}
	return append(all, math.MinInt, math.MinInt+1, math.MinInt32, math.MaxInt32, math.MaxInt-1, math.MaxInt)
}

// each calls f with every text of up to 5 bytes and splices of all edges.
func each(f func(b []byte, s api.Splice)) {
	for n := 0; n <= 5; n++ {
		for _, at := range edges() {
			for _, del := range edges() {
				for _, ins := range []string{"", "X", "XYZ"} {
					f([]byte(alphabet[:n]), api.Splice{At: at, Del: del, Ins: []byte(ins)})
				}
			}
		}
	}
}

// gone tells by the promise's words, byte by byte, where the splice begins and which bytes of a text of n go.
func gone(n int, s api.Splice) (int, []bool) {
	out := make([]bool, n)
	at := 0
	for at < n && at < s.At {
		at++
	}
	for i := at; i < n && i-at < s.Del; i++ {
		out[i] = true
	}
	return at, out
}

func number(list []bool) int {
	n := 0
	for _, x := range list {
		if x {
			n++
		}
	}
	return n
}

// P101: Clamp cuts At and Del, and leaves Ins.
func TestClamp(t *testing.T) {
	for i, x := range []struct{ n, at, del, wantAt, wantDel int }{
		{6, 1, 1, 1, 1},
		{6, 0, 6, 0, 6},
		{6, 6, 0, 6, 0},
		{6, 6, 1, 6, 0},
		{6, 7, 1, 6, 0},
		{6, 5, 2, 5, 1},
		{6, -1, 2, 0, 2},
		{6, 3, -1, 3, 0},
		{0, 3, 3, 0, 0},
		{-4, 3, 3, 0, 0},
		{-4, -9, -9, 0, 0},
		{math.MinInt, math.MaxInt, math.MaxInt, 0, 0},
		{math.MinInt, math.MinInt, math.MinInt, 0, 0},
		{math.MaxInt, math.MaxInt, math.MaxInt, math.MaxInt, 0},
		{math.MaxInt, 1, math.MaxInt, 1, math.MaxInt - 1},
		{math.MaxInt, math.MinInt, math.MaxInt, 0, math.MaxInt},
	} {
		for _, ins := range []string{"", "x", "longer than the text"} {
			got := splice.Clamp(x.n, api.Splice{At: x.at, Del: x.del, Ins: []byte(ins)})
			if got.At != x.wantAt || got.Del != x.wantDel || string(got.Ins) != ins {
				t.Errorf("case %d: %v", i, got)
			}
		}
	}
}

// P101: Clamp at all edges; a second Clamp changes nothing.
func TestClampAtEdges(t *testing.T) {
	each(func(b []byte, s api.Splice) {
		at, out := gone(len(b), s)
		got := splice.Clamp(len(b), s)
		if got.At != at || got.Del != number(out) || !bytes.Equal(got.Ins, s.Ins) {
			t.Errorf("Clamp %d %v: %v", len(b), s, got)
		}
		again := splice.Clamp(len(b), got)
		if again.At != got.At || again.Del != got.Del || !bytes.Equal(again.Ins, got.Ins) {
			t.Errorf("Clamp of Clamp %d %v: %v", len(b), s, again)
		}
	})
}

// P101: Do puts Ins in the place of what goes.
func TestDo(t *testing.T) {
	for i, x := range []struct {
		b       string
		at, del int
		ins     string
		want    string
	}{
		{"abc", 1, 1, "x", "axc"},
		{"abc", 0, 0, "", "abc"},
		{"abc", 0, 0, "xy", "xyabc"},
		{"abc", 3, 0, "xy", "abcxy"},
		{"abc", 4, 2, "xy", "abcxy"},
		{"abc", -1, 1, "xy", "xybc"},
		{"abc", 1, -1, "xy", "axybc"},
		{"abc", 1, 99, "", "a"},
		{"abc", 0, 3, "", ""},
		{"abc", math.MaxInt, math.MaxInt, "x", "abcx"},
		{"abc", 1, math.MaxInt, "x", "ax"},
		{"abc", math.MinInt, math.MinInt, "x", "xabc"},
		{"", 0, 0, "", ""},
		{"", 5, 5, "x", "x"},
		{"\x00\xff\n", 1, 1, "\x00\x80", "\x00\x00\x80\n"},
	} {
		got := splice.Do([]byte(x.b), api.Splice{At: x.at, Del: x.del, Ins: []byte(x.ins)})
		if string(got) != x.want {
			t.Errorf("case %d: %q, want %q", i, got, x.want)
		}
	}
	if got := splice.Do(nil, api.Splice{}); len(got) != 0 {
		t.Errorf("Do of nothing: %q", got)
	}
}

// P101: Do at all edges, held against a text that is put together byte by byte.
func TestDoAtEdges(t *testing.T) {
	each(func(b []byte, s api.Splice) {
		at, out := gone(len(b), s)
		want := string(b[:at]) + string(s.Ins)
		for i := at; i < len(b); i++ {
			if !out[i] {
				want += string(b[i : i+1])
			}
		}
		if got := splice.Do(b, s); string(got) != want {
			t.Errorf("Do %q %v: %q, want %q", b, s, got, want)
		}
	})
}

// P101: Map, place by place.
func TestMap(t *testing.T) {
	for i, x := range []struct {
		n, at, del int
		ins        string
		place      int
		want       int
	}{
		{9, 3, 2, "xyz", 0, 0},
		{9, 3, 2, "xyz", 3, 3},
		{9, 3, 2, "xyz", 4, 3},
		{9, 3, 2, "xyz", 5, 6},
		{9, 3, 2, "xyz", 9, 10},
		{9, 3, 2, "xyz", 10, 10},
		{9, 3, 2, "", 4, 3},
		{9, 3, 2, "", 5, 3},
		{9, 3, 2, "", 6, 4},
		{9, 3, 0, "xyz", 3, 3},
		{9, 3, 0, "xyz", 4, 7},
		{9, 3, -5, "xyz", 4, 7},
		{9, 9, 4, "xyz", 9, 9},
		{9, 99, 4, "xyz", 99, 9},
		{9, 0, 9, "xyz", 8, 0},
		{9, 0, 9, "xyz", 9, 3},
		{9, 0, 9, "xyz", -1, 0},
		{0, 0, 0, "xyz", 0, 0},
		{-7, 3, 3, "xyz", 3, 0},
		{math.MinInt, math.MaxInt, math.MaxInt, "x", math.MaxInt, 0},
		{math.MaxInt, 1, math.MaxInt, "x", math.MaxInt - 1, 1},
		{math.MaxInt, 1, math.MaxInt, "x", math.MaxInt, 2},
		{math.MaxInt, math.MaxInt, math.MaxInt, "x", math.MaxInt, math.MaxInt},
	} {
		s := api.Splice{At: x.at, Del: x.del, Ins: []byte(x.ins)}
		if got := splice.Map(x.n, s, x.place); got != x.want {
			t.Errorf("case %d: %d, want %d", i, got, x.want)
		}
	}
}

// P101: Map at all edges: a place ahead of a byte that stays is ahead of that byte still,
// but at the splice's own beginning, where what comes stands behind the place.
func TestMapAtEdges(t *testing.T) {
	each(func(b []byte, s api.Splice) {
		from, out := gone(len(b), s)
		now := splice.Do(b, s)
		for _, place := range edges() {
			got := splice.Map(len(b), s, place)
			p := min(max(place, 0), len(b))
			switch {
			case p <= from:
				if got != p {
					t.Errorf("Map %q %v %d: %d, want it as it was", b, s, place, got)
				}
			case p < len(b) && out[p]:
				if got != from {
					t.Errorf("Map %q %v %d: %d, want %d", b, s, place, got, from)
				}
			default:
				if got < 0 || got > len(now) || string(now[got:]) != string(b[p:]) {
					t.Errorf("Map %q %v %d: %d of %q", b, s, place, got, now)
				}
			}
		}
	})
}

// P101: Back tells what was there.
func TestBack(t *testing.T) {
	for i, x := range []struct {
		at, del         int
		ins             string
		wantAt, wantDel int
		want            string
	}{
		{1, 1, "x", 1, 1, "b"},
		{0, 0, "", 0, 0, ""},
		{0, 3, "", 0, 0, "abc"},
		{3, 1, "xy", 3, 2, ""},
		{-5, 2, "xy", 0, 2, "ab"},
		{2, -2, "xy", 2, 2, ""},
		{9, 9, "xy", 3, 2, ""},
		{1, math.MaxInt, "xyz", 1, 3, "bc"},
		{math.MinInt, math.MaxInt, "", 0, 0, "abc"},
		{math.MaxInt, math.MinInt, "q", 3, 1, ""},
	} {
		got := splice.Back([]byte("abc"), api.Splice{At: x.at, Del: x.del, Ins: []byte(x.ins)})
		if got.At != x.wantAt || got.Del != x.wantDel || string(got.Ins) != x.want {
			t.Errorf("case %d: %v", i, got)
		}
	}
}

// P101: Do of Back makes the text again, and Back of Back is the splice, clamped.
func TestBackUndoes(t *testing.T) {
	each(func(b []byte, s api.Splice) {
		now := splice.Do(b, s)
		back := splice.Back(b, s)
		if got := splice.Do(now, back); !bytes.Equal(got, b) {
			t.Errorf("Back %q %v: %v makes %q", b, s, back, got)
		}
		clamped := splice.Clamp(len(b), s)
		forth := splice.Back(now, back)
		if forth.At != clamped.At || forth.Del != clamped.Del || !bytes.Equal(forth.Ins, clamped.Ins) {
			t.Errorf("Back of Back %q %v: %v", b, s, forth)
		}
	})
}

// roomy is text with spare room behind it, and the whole of that memory.
func roomy(text string) (list, whole []byte) {
	whole = append([]byte(text), "________"...)
	return whole[:len(text)], whole
}

// fill writes over all that a list reaches, its spare room too.
func fill(b []byte) {
	b = b[:cap(b)]
	for i := range b {
		b[i] = '#'
	}
}

// P102: what is handed in stays as it is, its spare room too.
func TestHandedInStays(t *testing.T) {
	each(func(b []byte, s api.Splice) {
		text, wholeText := roomy(string(b))
		ins, wholeIns := roomy(string(s.Ins))
		x := api.Splice{At: s.At, Del: s.Del, Ins: ins}
		fill(splice.Clamp(len(text), x).Ins)
		fill(splice.Do(text, x))
		fill(splice.Back(text, x).Ins)
		splice.Map(len(text), x, 1)
		if string(wholeText) != string(b)+"________" || string(wholeIns) != string(s.Ins)+"________" {
			t.Errorf("%q %v: now %q and %q", b, s, wholeText, wholeIns)
		}
	})
}

// P102: what is handed in is not kept: an answer stays when the arguments turn.
func TestHandedInIsNotKept(t *testing.T) {
	each(func(b []byte, s api.Splice) {
		text, wholeText := roomy(string(b))
		ins, wholeIns := roomy(string(s.Ins))
		x := api.Splice{At: s.At, Del: s.Del, Ins: ins}
		clamped, done, back := splice.Clamp(len(text), x), splice.Do(text, x), splice.Back(text, x)
		fill(wholeText)
		fill(wholeIns)
		if !bytes.Equal(clamped.Ins, s.Ins) {
			t.Errorf("Clamp %q %v: %q", b, s, clamped.Ins)
		}
		if !bytes.Equal(done, splice.Do(b, s)) {
			t.Errorf("Do %q %v: %q", b, s, done)
		}
		if !bytes.Equal(back.Ins, splice.Back(b, s).Ins) {
			t.Errorf("Back %q %v: %q", b, s, back.Ins)
		}
	})
}

// P102: each answer has memory of its own, and a call hangs on its arguments alone:
// writing over the first answers is not seen in the second ones.
func TestAnswersAreNew(t *testing.T) {
	each(func(b []byte, s api.Splice) {
		clamped, done, back := splice.Clamp(len(b), s), splice.Do(b, s), splice.Back(b, s)
		wantClamped, wantDone, wantBack := string(clamped.Ins), string(done), string(back.Ins)
		fill(clamped.Ins)
		fill(done)
		fill(back.Ins)
		if got := splice.Clamp(len(b), s); string(got.Ins) != wantClamped || got.At != clamped.At || got.Del != clamped.Del {
			t.Errorf("Clamp %q %v: %v", b, s, got)
		}
		if got := splice.Do(b, s); string(got) != wantDone {
			t.Errorf("Do %q %v: %q", b, s, got)
		}
		if got := splice.Back(b, s); string(got.Ins) != wantBack || got.At != back.At || got.Del != back.Del {
			t.Errorf("Back %q %v: %v", b, s, got)
		}
	})
}

// P102: a text whose own piece is put in stays as it is, too.
func TestInsOfTheTextItself(t *testing.T) {
	b := []byte("abcdef")
	s := api.Splice{At: 1, Del: 2, Ins: b[2:5]}
	done, back := splice.Do(b, s), splice.Back(b, s)
	if string(done) != "acdedef" || string(back.Ins) != "bc" || string(b) != "abcdef" {
		t.Errorf("Do: %q, Back: %v, text: %q", done, back, b)
	}
	fill(done)
	fill(back.Ins)
	if string(b) != "abcdef" {
		t.Errorf("text: %q", b)
	}
}

// P102: nil and an empty list mean the same.
func TestNilAndEmpty(t *testing.T) {
	for _, b := range [][]byte{nil, {}} {
		for _, ins := range [][]byte{nil, {}} {
			s := api.Splice{At: 4, Del: 4, Ins: ins}
			clamped, done, back := splice.Clamp(0, s), splice.Do(b, s), splice.Back(b, s)
			if clamped.At != 0 || clamped.Del != 0 || len(clamped.Ins) != 0 {
				t.Errorf("Clamp: %v", clamped)
			}
			if len(done) != 0 || splice.Map(0, s, 4) != 0 {
				t.Errorf("Do: %q", done)
			}
			if back.At != 0 || back.Del != 0 || len(back.Ins) != 0 {
				t.Errorf("Back: %v", back)
			}
		}
	}
}
