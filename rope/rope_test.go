package rope_test

import (
	"bytes"
	"math"
	"sync"
	"testing"

	"undergrowth/api"
	"undergrowth/rope"
	"undergrowth/splice"
)

// edges are numbers around the bounds of a text of n bytes and of its leaves, and those at which sums wrap round.
func edges(n int) []int {
	all := []int{math.MinInt, math.MinInt + 1, math.MinInt32, math.MaxInt32, math.MaxInt - 1, math.MaxInt}
	for _, mid := range []int{0, 32, 64, 128, n / 2, n} {
		for x := mid - 2; x <= mid+2; x++ {
			all = append(all, x)
		}
	}
	return all
}

// sizes are lengths around those at which leaves split.
func sizes() []int {
	return []int{0, 1, 2, 31, 32, 33, 63, 64, 65, 127, 128, 129, 130, 131, 255, 256, 257, 1000, 4097}
}

// sample is a text of n bytes in which all bytes come, and some line feeds.
func sample(n int) []byte {
	b := make([]byte, n)
	for i := range b {
		b[i] = byte(i*7 + i/256)
		if i%11 == 3 {
			b[i] = '\n'
		}
	}
	return b
}

// halvings is how often n can be halved till it is 0.
func halvings(n int) int {
	times := 0
	for ; n > 0; n /= 2 {
		times++
	}
	return times
}

// lines counts them byte by byte.
func lines(b []byte) int {
	n := 1
	for _, c := range b {
		if c == 10 {
			n++
		}
	}
	return n
}

// check holds a rope against its text in all that a rope tells.
func check(t *testing.T, r *rope.Rope, b []byte) {
	t.Helper()
	if r.Len() != len(b) {
		t.Fatalf("Len: %d, want %d", r.Len(), len(b))
	}
	if got := r.Slice(0, len(b)); !bytes.Equal(got, b) {
		t.Fatalf("Slice of all %d bytes: %q, want %q", len(b), got, b)
	}
	if r.Lines() != lines(b) {
		t.Fatalf("Lines: %d, want %d", r.Lines(), lines(b))
	}
	if h := r.Height(); h < 1 || h > 3+2*halvings(len(b)) || h == 1 && len(b) > 64 {
		t.Fatalf("Height: %d of %d bytes", h, len(b))
	}
}

// P201: the chapter's example, and small texts.
func TestSmall(t *testing.T) {
	for _, x := range []struct {
		text  string
		lines int
	}{
		{"", 1}, {"ab", 1}, {"\n", 2}, {"a\nb", 2}, {"a\r\nb\r\n", 3}, {"\n\n\n", 4}, {"\x00\xff\x0b\x09", 1},
	} {
		r := rope.New([]byte(x.text))
		check(t, r, []byte(x.text))
		if r.Lines() != x.lines || r.Height() != 1 {
			t.Errorf("%q: Lines %d, Height %d", x.text, r.Lines(), r.Height())
		}
	}
	if got := rope.New([]byte("ab")).Len(); got != 2 {
		t.Errorf("Len of ab: %d", got)
	}
}

// P201: New of texts of all lengths around those of leaves.
func TestNew(t *testing.T) {
	for n := range 700 {
		check(t, rope.New(sample(n)), sample(n))
	}
	for _, n := range []int{4096, 65535, 65536, 65537, 1 << 20} {
		check(t, rope.New(sample(n)), sample(n))
	}
}

// P201: a text that fits into a leaf has Height 1, one that does not has more.
func TestHeightOfNew(t *testing.T) {
	for n := range 200 {
		if h := rope.New(sample(n)).Height(); (h == 1) != (n <= 64) {
			t.Errorf("Height of %d bytes: %d", n, h)
		}
	}
}

// P201: Byte at every place, and false at all others.
func TestByte(t *testing.T) {
	for _, n := range sizes() {
		b := sample(n)
		r := rope.New(b)
		for i := range b {
			if c, ok := r.Byte(i); c != b[i] || !ok {
				t.Errorf("Byte %d of %d: %d, %v", i, n, c, ok)
			}
		}
		for _, i := range edges(n) {
			if c, ok := r.Byte(i); (i < 0 || i >= n) && (c != 0 || ok) {
				t.Errorf("Byte %d of %d: %d, %v", i, n, c, ok)
			}
		}
	}
}

// P201: Slice at all edges: both numbers are cut, and to is from at least.
func TestSlice(t *testing.T) {
	for _, n := range sizes() {
		b := sample(n)
		r := rope.New(b)
		for _, from := range edges(n) {
			for _, to := range edges(n) {
				var want []byte
				for i := range b {
					if i >= from && i < to {
						want = append(want, b[i])
					}
				}
				if got := r.Slice(from, to); !bytes.Equal(got, want) {
					t.Fatalf("Slice %d, %d of %d: %q, want %q", from, to, n, got, want)
				}
			}
		}
	}
}

// P201: Slice of every piece of a text of some leaves.
func TestSliceOfEveryPiece(t *testing.T) {
	b := sample(300)
	r := rope.New(b)
	for from := range 301 {
		for to := from; to <= 300; to++ {
			if !bytes.Equal(r.Slice(from, to), b[from:to]) {
				t.Fatalf("Slice %d, %d: %q", from, to, r.Slice(from, to))
			}
		}
	}
}

// P201: Splice at all edges is splice.Do of the text; the old rope stays.
func TestSpliceAtEdges(t *testing.T) {
	for _, n := range []int{0, 1, 63, 64, 65, 129, 257} {
		b := sample(n)
		r := rope.New(b)
		for _, at := range edges(n) {
			for _, del := range edges(n) {
				for _, more := range []int{0, 1, 64, 65, 200} {
					s := api.Splice{At: at, Del: del, Ins: bytes.Repeat([]byte{'\n'}, more)}
					check(t, r.Splice(s), splice.Do(b, s))
				}
			}
		}
		check(t, r, b)
	}
}

// dice is a plain row of numbers that is the same in every run.
type dice uint32

func (d *dice) below(n int) int {
	*d = *d*1664525 + 1013904223
	return int(*d>>8) % n
}

// P201: behind many splices, small and great, each rope of the row still is its own text.
func TestManySplices(t *testing.T) {
	for seed := range 8 {
		d := dice(seed)
		text, r := []byte(nil), rope.New(nil)
		var texts [][]byte
		var ropes []*rope.Rope
		for range 600 {
			s := api.Splice{At: d.below(len(text)+9) - 4, Del: d.below(30) - 3, Ins: sample(d.below(50))}
			if d.below(20) == 0 {
				s.Ins = sample(d.below(3000))
			}
			if d.below(20) == 0 {
				s.Del = d.below(3000)
			}
			text, r = splice.Do(text, s), r.Splice(s)
			check(t, r, text)
			texts, ropes = append(texts, text), append(ropes, r)
		}
		for i := range ropes {
			check(t, ropes[i], texts[i])
		}
	}
}

// P201: Height stays low however one-sidedly a text grows and shrinks.
func TestHeightOfOneSidedEdits(t *testing.T) {
	ways := []func(n int) int{
		func(n int) int { return 0 },
		func(n int) int { return n },
		func(n int) int { return n / 2 },
		func(n int) int { return n - n/7 },
	}
	for _, at := range ways {
		for _, step := range []int{1, 65, 500} {
			text, r := []byte(nil), rope.New(nil)
			for range 400 {
				s := api.Splice{At: at(len(text)), Ins: sample(step)}
				text, r = splice.Do(text, s), r.Splice(s)
				check(t, r, text)
			}
			for len(text) > 0 {
				s := api.Splice{At: at(len(text)) - step/2, Del: step/2 + 1 + len(text)/100}
				if s.At >= len(text) {
					s.At = len(text) - 1
				}
				text, r = splice.Do(text, s), r.Splice(s)
				check(t, r, text)
			}
			if r.Height() != 1 {
				t.Errorf("Height of what is left: %d", r.Height())
			}
		}
	}
}

// P201: a rope that is doubled by itself stays one, too.
func TestSpliceOfItself(t *testing.T) {
	text := []byte("ab\n")
	r := rope.New(text)
	for range 12 {
		s := api.Splice{At: len(text) / 3, Ins: r.Slice(0, r.Len())}
		text, r = splice.Do(text, s), r.Splice(s)
		check(t, r, text)
	}
}

// P202: a nil rope, and the zero one, are as New of nothing.
func TestNilRope(t *testing.T) {
	var none *rope.Rope
	for _, r := range []*rope.Rope{none, {}, rope.New(nil), rope.New([]byte{})} {
		check(t, r, nil)
		if r.Height() != 1 || r.Lines() != 1 {
			t.Errorf("Height %d, Lines %d", r.Height(), r.Lines())
		}
		for _, i := range edges(0) {
			if c, ok := r.Byte(i); c != 0 || ok {
				t.Errorf("Byte %d: %d, %v", i, c, ok)
			}
			for _, j := range edges(0) {
				if got := r.Slice(i, j); len(got) != 0 {
					t.Errorf("Slice %d, %d: %q", i, j, got)
				}
				check(t, r.Splice(api.Splice{At: i, Del: j}), nil)
				check(t, r.Splice(api.Splice{At: i, Del: j, Ins: sample(100)}), sample(100))
			}
		}
		again := r.Splice(api.Splice{Ins: []byte("ac")}).Splice(api.Splice{At: 1, Ins: []byte("b")})
		check(t, again, []byte("abc"))
	}
}

// roomy is text with spare room behind it, and the whole of that memory.
func roomy(text []byte) (list, whole []byte) {
	whole = append(bytes.Clone(text), "________"...)
	return whole[:len(text)], whole
}

// fill writes over all that a list reaches, its spare room too.
func fill(b []byte) {
	b = b[:cap(b)]
	for i := range b {
		b[i] = '#'
	}
}

// P202: what is handed in stays as it is, its spare room too, and is not kept.
func TestHandedIn(t *testing.T) {
	for _, n := range sizes() {
		for _, more := range sizes() {
			text, wholeText := roomy(sample(n))
			ins, wholeIns := roomy(sample(more))
			s := api.Splice{At: n / 2, Del: n / 4, Ins: ins}
			want := splice.Do(text, s)
			r := rope.New(text)
			now := r.Splice(s)
			fill(r.Slice(0, n))
			fill(now.Slice(0, now.Len()))
			if !bytes.Equal(wholeText, append(sample(n), "________"...)) || !bytes.Equal(wholeIns, append(sample(more), "________"...)) {
				t.Fatalf("%d, %d: what was handed in is turned", n, more)
			}
			fill(wholeText)
			fill(wholeIns)
			check(t, r, sample(n))
			check(t, now, want)
		}
	}
}

// P202: each answer of Slice has memory of its own.
func TestSliceIsNew(t *testing.T) {
	for _, n := range sizes() {
		r := rope.New(sample(n))
		for _, from := range []int{0, n / 3} {
			one, two := r.Slice(from, n), r.Slice(from, n)
			fill(one)
			if !bytes.Equal(two, sample(n)[from:]) {
				t.Fatalf("%d: two answers share memory", n)
			}
		}
		check(t, r, sample(n))
	}
}

// P202: the same calls tell the same, whatever else was made meanwhile.
func TestCallsHangOnArgumentsAlone(t *testing.T) {
	d := dice(5)
	one, two := rope.New(sample(500)), rope.New(sample(500))
	for range 300 {
		s := api.Splice{At: d.below(600), Del: d.below(40), Ins: sample(d.below(40))}
		one = one.Splice(s)
		rope.New(sample(100)).Splice(s)
		two.Splice(api.Splice{Del: 100})
		two = two.Splice(s)
		if one.Height() != two.Height() || !bytes.Equal(one.Slice(0, one.Len()), two.Slice(0, two.Len())) {
			t.Fatal("two ropes of one history differ")
		}
	}
}

// P201: a rope never turns, so that many may read and splice it at the same time.
func TestManyAtOnce(t *testing.T) {
	b := sample(3000)
	r := rope.New(b)
	got := make([]*rope.Rope, 16)
	var all sync.WaitGroup
	for i := range got {
		all.Go(func() {
			got[i] = r.Splice(api.Splice{At: i * 100, Del: i, Ins: sample(i * 10)})
		})
	}
	all.Wait()
	for i := range got {
		check(t, got[i], splice.Do(b, api.Splice{At: i * 100, Del: i, Ins: sample(i * 10)}))
	}
	check(t, r, b)
}
