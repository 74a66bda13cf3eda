package posit_test

import (
	"math"
	"regexp"
	"slices"
	"strings"
	"sync"
	"testing"

	"undergrowth/api"
	"undergrowth/posit"
	"undergrowth/regex"
)

// set is the pattern of the bytes of s.
func set(s string) api.Re {
	x := api.Re{Op: api.RSet}
	for i := range len(s) {
		x.Set[s[i]/64] |= 1 << (s[i] % 64)
	}
	return x
}

func of(op int, kids ...api.Re) api.Re { return api.Re{Op: op, Kids: kids} }
func cat(kids ...api.Re) api.Re        { return of(api.RCat, kids...) }
func alt(kids ...api.Re) api.Re        { return of(api.RAlt, kids...) }
func star(x api.Re) api.Re             { return of(api.RStar, x) }
func plus(x api.Re) api.Re             { return of(api.RPlus, x) }
func opt(x api.Re) api.Re              { return of(api.ROpt, x) }

// read is the pattern that s is read as.
func read(t *testing.T, s string) api.Re {
	t.Helper()
	x, at, e := regex.Parse(s)
	if e != api.OK {
		t.Fatalf("Parse %q: %d, %v", s, at, e)
	}
	return x
}

// tower is x within n patterns of that kind.
func tower(n, op int, x api.Re) api.Re {
	for range n {
		x = of(op, x)
	}
	return x
}

// numbers tells a list as one text: "0 3".
func numbers(l []int) string {
	s := ""
	for _, x := range l {
		s += " " + string(rune('0'+x))
	}
	return strings.TrimPrefix(s, " ")
}

// told tells places (less than 10 of them) as one text: null, First, Last, Follow of each.
func told(p api.Posits) string {
	s := ""
	if p.Null {
		s = "null "
	}
	s += "first " + numbers(p.First) + " last " + numbers(p.Last)
	for _, f := range p.Follow {
		s += " [" + numbers(f) + "]"
	}
	return s
}

func same(p, q api.Posits) bool {
	return p.Null == q.Null && slices.Equal(p.Sets, q.Sets) && slices.Equal(p.First, q.First) && slices.Equal(p.Last, q.Last) &&
		slices.EqualFunc(p.Follow, q.Follow, func(a, b []int) bool { return slices.Equal(a, b) })
}

// refuses looks whether Of x tells that error, and nothing beside.
func refuses(t *testing.T, what string, x api.Re, e api.Errno) {
	t.Helper()
	if p, got := posit.Of(x); got != e || p.Sets != nil || p.Null || p.First != nil || p.Last != nil || p.Follow != nil {
		t.Errorf("%s: %d places, %v, %v; want %v", what, len(p.Sets), told(api.Posits{Null: p.Null}), got, e)
	}
}

// has looks whether Of x is of that many places.
func has(t *testing.T, what string, x api.Re, n int) api.Posits {
	t.Helper()
	p, e := posit.Of(x)
	if e != api.OK || len(p.Sets) != n || len(p.Follow) != n {
		t.Errorf("%s: %d places, %d of Follow, %v; want %d", what, len(p.Sets), len(p.Follow), e, n)
	}
	return p
}

// P401: places, Null, First, Last and Follow of what Parse tells.
func TestOf(t *testing.T) {
	for _, x := range []struct{ pattern, sets, want string }{
		{"", "", "null first  last "},
		{"a", "a", "first 0 last 0 []"},
		{"abc", "abc", "first 0 last 2 [1] [2] []"},
		{"a|b|c", "abc", "first 0 1 2 last 0 1 2 [] [] []"},
		{"a*", "a", "null first 0 last 0 [0]"},
		{"a+", "a", "first 0 last 0 [0]"},
		{"a?", "a", "null first 0 last 0 []"},
		{"aa", "aa", "first 0 last 1 [1] []"},
		{"ab|bc|", "abbc", "null first 0 2 last 1 3 [1] [] [3] []"},
		{"ab*c", "abc", "first 0 last 2 [1 2] [1 2] []"},
		{"ab+c", "abc", "first 0 last 2 [1] [1 2] []"},
		{"ab?c", "abc", "first 0 last 2 [1 2] [2] []"},
		{"a?b?c?", "abc", "null first 0 1 2 last 0 1 2 [1 2] [2] []"},
		{"a*b*", "ab", "null first 0 1 last 0 1 [0 1] [1]"},
		{"a*b", "ab", "first 0 1 last 1 [0 1] []"},
		{"ab*", "ab", "first 0 last 0 1 [1] [1]"},
		{"(ab)*", "ab", "null first 0 last 1 [1] [0]"},
		{"(ab)+c", "abc", "first 0 last 2 [1] [0 2] []"},
		{"(a|b)?c", "abc", "first 0 1 2 last 2 [2] [2] []"},
		{"(a|)b", "ab", "first 0 1 last 1 [1] []"},
		{"a(|b)", "ab", "first 0 last 0 1 [1] []"},
		{"(a?b?)+", "ab", "null first 0 1 last 0 1 [0 1] [0 1]"},
		{"(a*b*)?", "ab", "null first 0 1 last 0 1 [0 1] [1]"},
		{"(a+)?+", "a", "null first 0 last 0 [0]"},
		{"(a*b)*c", "abc", "first 0 1 2 last 2 [0 1] [0 1 2] []"},
		{"(a|b)*abb", "ababb", "first 0 1 2 last 4 [0 1 2] [0 1 2] [3] [4] []"},
		{"((a|b)c?)+d", "abcd", "first 0 1 last 3 [0 1 2 3] [0 1 2 3] [0 1 3] []"},
		{"a()b()c", "abc", "first 0 last 2 [1] [2] []"},
		{"()*a()+", "a", "first 0 last 0 []"},
		{"()|a", "a", "null first 0 last 0 []"},
		{"(()())*", "", "null first  last "},
	} {
		p, e := posit.Of(read(t, x.pattern))
		if e != api.OK || told(p) != x.want || len(p.Sets) != len(x.sets) {
			t.Errorf("Of %q: %s, %v; want %s", x.pattern, told(p), e, x.want)
			continue
		}
		for i, s := range p.Sets {
			if s != set(x.sets[i:i+1]).Set {
				t.Errorf("Of %q: place %d is of %v", x.pattern, i, s)
			}
		}
	}
}

// P401: Sets is what each place takes: any sets, the empty one, too, which is a place as others are.
func TestSets(t *testing.T) {
	all := [4]uint64{math.MaxUint64, math.MaxUint64, math.MaxUint64, math.MaxUint64}
	want := [][4]uint64{set("ab").Set, {}, all, set("\x00\x3f\x40\x7f\x80\xbf\xc0\xff").Set, {1, 2, 3, 4}}
	var kids []api.Re
	for _, s := range want {
		kids = append(kids, api.Re{Op: api.RSet, Set: s})
	}
	p := has(t, "sets", cat(kids...), len(want))
	if !slices.Equal(p.Sets, want) || told(p) != "first 0 last 4 [1] [2] [3] [4] []" {
		t.Errorf("%v: %s", p.Sets, told(p))
	}
	// the numbers rise from the left, whatever stands within what
	x := cat(alt(set("a"), plus(set("b"))), star(cat(set("c"), opt(set("d")))), set("e"))
	p = has(t, "from the left", x, 5)
	for i, s := range p.Sets {
		if s != set("abcde"[i:i+1]).Set {
			t.Errorf("place %d is of %v", i, s)
		}
	}
}

// P401: what Parse never tells is as RNone, and Kids that do not count are not looked at.
func TestOfOddPatterns(t *testing.T) {
	a, b := set("a"), set("b")
	high := tower(1000, api.RStar, a)
	many := cat(slices.Repeat([]api.Re{a}, 151)...)
	for _, kids := range [][]api.Re{nil, {}, {a}, {a, b}, {high, many}} {
		for _, op := range []int{api.RNone, -1, 7, 8, 99, math.MaxInt, math.MinInt} {
			p := has(t, "none", api.Re{Op: op, Set: a.Set, Kids: kids}, 0)
			if told(p) != "null first  last " {
				t.Errorf("Op %d: %s", op, told(p))
			}
			p = has(t, "none within", cat(a, of(op, kids...), b), 2)
			if told(p) != "first 0 last 1 [1] []" {
				t.Errorf("Op %d within: %s", op, told(p))
			}
		}
	}
	for op := api.RCat; op <= api.ROpt; op++ {
		for _, kids := range [][]api.Re{nil, {}} {
			lone := api.Re{Op: op, Set: a.Set, Kids: kids}
			if p := has(t, "lone", lone, 0); told(p) != "null first  last " {
				t.Errorf("Op %d without Kids: %s", op, told(p))
			}
			if p := has(t, "lone within", cat(a, lone, b), 2); told(p) != "first 0 last 1 [1] []" {
				t.Errorf("Op %d without Kids within: %s", op, told(p))
			}
			if p := has(t, "lone beside", alt(a, lone), 1); told(p) != "null first 0 last 0 []" {
				t.Errorf("Op %d without Kids beside: %s", op, told(p))
			}
		}
	}
	for _, more := range [][]api.Re{{b}, {b, a}, {many}, {high}, {high, many}} {
		for op, want := range map[int]string{api.RStar: "null first 0 last 0 [0]", api.RPlus: "first 0 last 0 [0]", api.ROpt: "null first 0 last 0 []"} {
			if p := has(t, "further kids", of(op, append([]api.Re{a}, more...)...), 1); told(p) != want || p.Sets[0] != a.Set {
				t.Errorf("Op %d with further Kids: %s", op, told(p))
			}
		}
		wide := a
		wide.Kids = more
		if p := has(t, "set with kids", wide, 1); told(p) != "first 0 last 0 []" {
			t.Errorf("RSet with Kids: %s", told(p))
		}
	}
	if p := has(t, "set is not looked at", api.Re{Op: api.RCat, Set: b.Set, Kids: []api.Re{a}}, 1); p.Sets[0] != a.Set {
		t.Errorf("RCat with a Set: %v", p.Sets)
	}
}

// chance is a row of numbers that is always the same.
type chance uint32

func (c *chance) below(n int) int {
	*c = *c*1664525 + 1013904223
	return int(*c>>8) % n
}

// grow makes a pattern of up to so many levels of the bytes a, b and c.
func (c *chance) grow(levels int) api.Re {
	op := c.below(7)
	if levels <= 1 && op > api.RSet {
		op = api.RSet
	}
	x := api.Re{Op: op}
	switch op {
	case api.RSet:
		x.Set = set([]string{"a", "b", "c", "ab", "bc"}[c.below(5)]).Set
	case api.RCat, api.RAlt:
		for range c.below(4) {
			x.Kids = append(x.Kids, c.grow(levels-1))
		}
	case api.RStar, api.RPlus, api.ROpt:
		for range min(c.below(6), 2) {
			x.Kids = append(x.Kids, c.grow(levels-1))
		}
	}
	return x
}

// rows tells all rows of places, up to most of them, that a pattern takes; n counts the places. It is by the chapter's words alone.
func rows(x api.Re, most int, n *int) map[string]bool {
	none := map[string]bool{"": true}
	all := map[string]bool{}
	if x.Op == api.RSet {
		all[string([]byte{byte(*n)})] = true
		*n++
		return all
	}
	if x.Op < api.RCat || x.Op > api.ROpt || len(x.Kids) == 0 {
		return none
	}
	switch x.Op {
	case api.RAlt:
		for _, kid := range x.Kids {
			for w := range rows(kid, most, n) {
				all[w] = true
			}
		}
		return all
	case api.RCat:
		all = none
		for _, kid := range x.Kids {
			all = behind(all, rows(kid, most, n), most)
		}
		return all
	}
	once := rows(x.Kids[0], most, n)
	for w := range once {
		all[w] = true
	}
	for x.Op != api.ROpt {
		was := len(all)
		for w := range behind(all, once, most) {
			all[w] = true
		}
		if len(all) == was {
			break
		}
	}
	if x.Op != api.RPlus {
		all[""] = true
	}
	return all
}

// behind is each row of the one with each of the other behind it.
func behind(one, other map[string]bool, most int) map[string]bool {
	all := map[string]bool{}
	for v := range one {
		for w := range other {
			if len(v)+len(w) <= most {
				all[v+w] = true
			}
		}
	}
	return all
}

// byRows tells Null, First, Last and Follow by looking at all rows of places.
func byRows(words map[string]bool, n int) api.Posits {
	p := api.Posits{Null: words[""], Follow: make([][]int, n)}
	put := func(l *[]int, i byte) {
		if !slices.Contains(*l, int(i)) {
			*l = append(*l, int(i))
			slices.Sort(*l)
		}
	}
	for w := range words {
		for i := range len(w) {
			if i == 0 {
				put(&p.First, w[i])
			} else {
				put(&p.Follow[w[i-1]], w[i])
			}
			if i == len(w)-1 {
				put(&p.Last, w[i])
			}
		}
	}
	return p
}

// P401: what is told of many patterns is what their rows of places say.
func TestOfAndRows(t *testing.T) {
	var c chance
	seen := [4]int{}
	for seen[3] < 1500 {
		x := c.grow(5)
		p, e := posit.Of(x)
		if e != api.OK || len(p.Sets) >= len(seen) {
			continue
		}
		n := 0
		// a way over any Follow is at most each place once up to it, and each once from there on
		want := byRows(rows(x, 2*len(p.Sets), &n), len(p.Sets))
		if n != len(p.Sets) || told(p) != told(want) {
			t.Fatalf("Of %v: %s; want %d places, %s", x, told(p), n, told(want))
		}
		seen[n]++
	}
	if slices.Min(seen[:]) < 100 {
		t.Errorf("patterns of each number of places: %v", seen)
	}
}

// P401: as many places as may be, and one more, wherever they stand.
func TestMostPlaces(t *testing.T) {
	a := set("a")
	p := has(t, "a row", cat(slices.Repeat([]api.Re{a}, 150)...), 150)
	if len(p.First) != 1 || len(p.Last) != 1 || p.Last[0] != 149 || len(p.Follow[148]) != 1 || len(p.Follow[149]) != 0 {
		t.Errorf("a row: %v, %v", p.First, p.Last)
	}
	all := make([]int, 150)
	for i := range all {
		all[i] = i
	}
	p = has(t, "any row", star(alt(slices.Repeat([]api.Re{a}, 150)...)), 150)
	if !slices.Equal(p.First, all) || !slices.Equal(p.Last, all) || !p.Null {
		t.Errorf("any row: %v, %v", p.First, p.Last)
	}
	for i, f := range p.Follow {
		if !slices.Equal(f, all) {
			t.Errorf("any row: behind %d: %v", i, f)
		}
	}
	half := alt(slices.Repeat([]api.Re{a}, 75)...)
	has(t, "two halves", cat(half, star(half)), 150)
	refuses(t, "two halves and one", cat(half, star(half), opt(a)), api.ErrLong)
	refuses(t, "151 in a row", cat(slices.Repeat([]api.Re{a}, 151)...), api.ErrLong)
	refuses(t, "151 beside each other", alt(slices.Repeat([]api.Re{a}, 151)...), api.ErrLong)
	refuses(t, "151 empty sets", alt(slices.Repeat([]api.Re{{Op: api.RSet}}, 151)...), api.ErrLong)
	refuses(t, "many more", cat(slices.Repeat([]api.Re{half}, 1000)...), api.ErrLong)
	has(t, "what is no place does not count", cat(append(slices.Repeat([]api.Re{{}, cat(), of(99, a)}, 500), a)...), 1)
	has(t, "read", read(t, strings.Repeat("a", 150)), 150)
	refuses(t, "read", read(t, strings.Repeat("a", 151)), api.ErrLong)
}

// P401: as deep as may be, and one deeper, on each way; more than MaxPosits places are told ahead of that.
func TestDeepest(t *testing.T) {
	a := set("a")
	many := cat(slices.Repeat([]api.Re{a}, 151)...)
	for op := api.RCat; op <= api.ROpt; op++ {
		has(t, "199 and a set", tower(199, op, a), 1)
		refuses(t, "200 and a set", tower(200, op, a), api.ErrDeep)
		for _, low := range []api.Re{{}, of(op), of(99, a), {Kids: []api.Re{tower(9, op, a)}}} {
			has(t, "199 and nothing", tower(199, op, low), 0)
			refuses(t, "200 and nothing", tower(200, op, low), api.ErrDeep)
		}
		refuses(t, "deep and long", tower(300, op, many), api.ErrLong)
		high := tower(198, op, a)
		has(t, "the first kid", cat(high, a), 2)
		has(t, "the last kid", alt(a, a, high), 3)
		has(t, "a kid between", cat(a, high, a), 3)
		high = tower(199, op, a)
		refuses(t, "the first kid", cat(high, a), api.ErrDeep)
		refuses(t, "the last kid", alt(a, a, high), api.ErrDeep)
		refuses(t, "a kid between", cat(a, high, a), api.ErrDeep)
		refuses(t, "deep, and long beside", cat(high, many), api.ErrLong)
		refuses(t, "long, and deep beside", alt(many, high), api.ErrLong)
	}
	p := has(t, "199 stars", tower(199, api.RStar, a), 1)
	if told(p) != "null first 0 last 0 [0]" {
		t.Errorf("199 stars: %s", told(p))
	}
}

// P401: patterns that are deeper than calls can be are refused, and what is refused of them is still told in order.
func TestVeryDeep(t *testing.T) {
	a := set("a")
	many := alt(slices.Repeat([]api.Re{a}, 151)...)
	refuses(t, "many places, deeper than calls can be", tower(1<<22, api.RAlt, many), api.ErrLong)
	const deep = 1 << 16
	refuses(t, "stars", tower(deep, api.RStar, a), api.ErrDeep)
	refuses(t, "rows", tower(deep, api.RCat, api.Re{}), api.ErrDeep)
	x := a
	for i := range deep {
		if i%2 == 0 {
			x = cat(api.Re{}, x, api.Re{})
		} else {
			x = alt(x, api.Re{})
		}
	}
	refuses(t, "rows of nothing beside", x, api.ErrDeep)
	refuses(t, "many places behind what is deep", cat(x, many), api.ErrLong)
}

// P401: lists of kids that share memory, many times over.
func TestSharedKids(t *testing.T) {
	double := func(n int, x api.Re) api.Re {
		for range n {
			x = cat(slices.Repeat([]api.Re{x}, 2)...)
		}
		return x
	}
	a := set("a")
	has(t, "doubled 7 times", double(7, a), 128)
	refuses(t, "doubled 8 times", double(8, a), api.ErrLong)
	refuses(t, "doubled 150 times", double(150, a), api.ErrLong)
	p := has(t, "nothing, doubled 150 times", cat(double(150, api.Re{}), a, double(150, cat())), 1)
	if told(p) != "first 0 last 0 []" {
		t.Errorf("nothing, doubled: %s", told(p))
	}
	refuses(t, "nothing, doubled 200 times", double(200, api.Re{}), api.ErrDeep)
	// one list, of which patterns look at more or less
	l := []api.Re{a, star(a), a}
	p = has(t, "one list", cat(cat(l[:1]...), of(api.RPlus, l...), alt(l...), cat(l[1:]...), cat(l[:0]...)), 7)
	if told(p) != "first 0 last 6 [1] [1 2 3 4 5 6] [5 6] [3 5 6] [5 6] [5 6] []" {
		t.Errorf("one list: %s", told(p))
	}
}

// web is some lists of kids, each of whose patterns may have any of these lists as its Kids.
func (c *chance) web(lists int) [][]api.Re {
	web := make([][]api.Re, lists)
	for i := range web {
		web[i] = make([]api.Re, 1+c.below(3))
	}
	for _, l := range web {
		for k := range l {
			l[k].Op = []int{api.RNone, api.RNone, api.RSet, api.RCat, api.RAlt, api.RStar, api.RPlus, api.ROpt}[c.below(8)]
			if c.below(4) > 0 {
				l[k].Kids = web[c.below(lists)]
			}
		}
	}
	return web
}

// looked is the kids of x that are looked at.
func looked(x *api.Re) []*api.Re {
	l := x.Kids
	switch {
	case len(l) == 0 || x.Op < api.RCat || x.Op > api.ROpt:
		return nil
	case x.Op >= api.RStar:
		l = l[:1]
	}
	var kids []*api.Re
	for i := range l {
		kids = append(kids, &l[i])
	}
	return kids
}

// inner is all that stand within x: x too if it stands within itself.
func inner(x *api.Re) map[*api.Re]bool {
	all := map[*api.Re]bool{}
	todo := looked(x)
	for len(todo) > 0 {
		kid := todo[0]
		todo = todo[1:]
		if !all[kid] {
			all[kid] = true
			todo = append(todo, looked(kid)...)
		}
	}
	return all
}

// inWeb is how many places x has, 1000 if they have no end.
func inWeb(x *api.Re) int {
	if x.Op == api.RSet {
		return 1
	}
	all, n := inner(x), 0
	for kid := range all {
		if kid.Op == api.RSet {
			n++
		}
	}
	switch {
	case n == 0:
		return 0
	case all[x]:
		return 1000
	}
	n = 0
	for _, kid := range looked(x) {
		n = min(n+inWeb(kid), 1000)
	}
	return n
}

// endless tells whether x has no end downwards.
func endless(x *api.Re) bool {
	all := inner(x)
	for kid := range all {
		if inner(kid)[kid] {
			return true
		}
	}
	return false
}

// P401: lists of kids that share memory or hold themselves: what has no end is too long if it has places without end, else too deep.
func TestWebs(t *testing.T) {
	var c chance
	seen := map[api.Errno]int{}
	for range 20000 {
		web := c.web(1 + c.below(6))
		x, want := &web[0][0], api.OK
		n := inWeb(x)
		if n > 150 {
			want = api.ErrLong
		} else if endless(x) {
			want = api.ErrDeep
		}
		if want == api.OK {
			has(t, "a web", *x, n)
		} else {
			refuses(t, "a web", *x, want)
		}
		seen[want]++
	}
	if seen[api.OK] < 100 || seen[api.ErrLong] < 100 || seen[api.ErrDeep] < 100 {
		t.Errorf("not enough of each: %v", seen)
	}
}

// answers looks at Takes of p for each row of bytes of an alphabet, up to most of them.
func answers(t *testing.T, what string, p api.Posits, alphabet string, most int, want func(b string) bool) {
	t.Helper()
	var grow func(b string)
	grow = func(b string) {
		if got := posit.Takes(p, []byte(b)); got != want(b) {
			t.Fatalf("%s: Takes %q: %v", what, b, got)
		}
		if len(b) < most {
			for i := range len(alphabet) {
				grow(b + alphabet[i:i+1])
			}
		}
	}
	grow("")
}

// P402: patterns that Parse tells, by all short rows of bytes.
func TestTakes(t *testing.T) {
	for _, x := range []struct{ pattern, taken string }{
		{"", ""},
		{"a", "a"},
		{"ab", "ab"},
		{"a|b", "a,b"},
		{"a|", ",a"},
		{"a?b?", ",a,b,ab"},
		{"a*", ",a,aa,aaa,aaaa"},
		{"a+", "a,aa,aaa,aaaa"},
		{"(ab)*", ",ab,abab"},
		{"a[^a]c?", "ab,ac,abc,acc"},
		{"a(b|c?)a", "aa,aba,aca"},
		{".b.", "aba,abb,abc,bba,bbb,bbc,cba,cbb,cbc"},
		{"(a|bb)+c", "ac,bbc,aac,abbc,bbac,aaac"},
		{"x", "x"},
	} {
		p, e := posit.Of(read(t, x.pattern))
		if e != api.OK {
			t.Fatalf("Of %q: %v", x.pattern, e)
		}
		taken := strings.Split(x.taken, ",")
		answers(t, x.pattern, p, "abc", 4, func(b string) bool { return slices.Contains(taken, b) })
	}
}

// spelt is x as package regexp reads it.
func spelt(x api.Re) string {
	if x.Op == api.RSet {
		s := ""
		for _, c := range "abc" {
			if regex.Has(x.Set, byte(c)) {
				s += string(c)
			}
		}
		return "[" + s + "]"
	}
	if x.Op < api.RCat || x.Op > api.ROpt || len(x.Kids) == 0 {
		return "(?:)"
	}
	var kids []string
	for _, kid := range x.Kids {
		kids = append(kids, spelt(kid))
	}
	switch x.Op {
	case api.RCat:
		return "(?:" + strings.Join(kids, "") + ")"
	case api.RAlt:
		return "(?:" + strings.Join(kids, "|") + ")"
	}
	return "(?:" + kids[0] + string("*+?"[x.Op-api.RStar]) + ")"
}

// P402: many patterns, held against another reader of patterns.
func TestTakesAndRegexp(t *testing.T) {
	c := chance(1)
	for n := 0; n < 1500; {
		x := c.grow(5)
		p, e := posit.Of(x)
		if e != api.OK || len(p.Sets) == 0 {
			continue
		}
		n++
		other := regexp.MustCompile("^" + spelt(x) + "$")
		answers(t, spelt(x), p, "abc", 4, other.MatchString)
	}
}

// P402: long rows of bytes, of which one place can have taken many.
func TestTakesLongRows(t *testing.T) {
	p, _ := posit.Of(read(t, "(a|b)*a(a|b)(a|b)(a|b)"))
	for n := range 100 {
		b := []byte(strings.Repeat("b", n))
		for i := range b {
			b[i] = 'a'
			if posit.Takes(p, b) != (i == n-4) {
				t.Errorf("%q", b)
			}
			b[i] = 'b'
		}
	}
	long := []byte(strings.Repeat("ab", 1<<20))
	if !posit.Takes(p, long) || posit.Takes(p, long[:len(long)-1]) {
		t.Error("a long row")
	}
	p, _ = posit.Of(read(t, "(a|a|[ab])*b"))
	if !posit.Takes(p, long) || posit.Takes(p, long[:len(long)-1]) {
		t.Error("a long row that is taken on many ways")
	}
}

// P402: each byte, in sets of one and of all others.
func TestTakesEachByte(t *testing.T) {
	for c := range 256 {
		one := set(string([]byte{byte(c)}))
		other := one
		for i := range other.Set {
			other.Set[i] = ^other.Set[i]
		}
		p, _ := posit.Of(one)
		q, _ := posit.Of(other)
		for d := range 256 {
			if b := []byte{byte(d)}; posit.Takes(p, b) != (c == d) || posit.Takes(q, b) == (c == d) {
				t.Errorf("%d and %d", c, d)
			}
		}
	}
}

// posits makes some that Of need not tell: with numbers of no place, twice the same ones, falling ones, and more or fewer of Follow.
func (c *chance) posits() api.Posits {
	list := func() []int {
		var l []int
		for range c.below(5) {
			l = append(l, []int{0, 1, 2, 3, 0, 1, 2, 4, -1, math.MinInt, math.MaxInt, 150, 64}[c.below(13)])
		}
		return l
	}
	p := api.Posits{Null: c.below(2) == 0, First: list(), Last: list()}
	for range c.below(5) {
		p.Sets = append(p.Sets, set([]string{"", "a", "b", "ab"}[c.below(4)]).Set)
	}
	for range c.below(6) {
		p.Follow = append(p.Follow, list())
	}
	return p
}

// byHand tells whether p takes b, with one of these places for its first byte, by trying each.
func byHand(p api.Posits, places []int, b string) bool {
	for _, i := range places {
		if i < 0 || i >= len(p.Sets) || !regex.Has(p.Sets[i], b[0]) {
			continue
		}
		if len(b) == 1 {
			if slices.Contains(p.Last, i) {
				return true
			}
		} else if i < len(p.Follow) && byHand(p, p.Follow[i], b[1:]) {
			return true
		}
	}
	return false
}

// P402: any places: numbers of none are as if they were not there.
func TestTakesAnyPlaces(t *testing.T) {
	var c chance
	taken := 0
	for range 5000 {
		p := c.posits()
		answers(t, "any places", p, "abc", 4, func(b string) bool {
			if b == "" {
				return p.Null
			}
			yes := byHand(p, p.First, b)
			if yes {
				taken++
			}
			return yes
		})
	}
	if taken < 1000 {
		t.Errorf("only %d rows were taken", taken)
	}
}

// P402: more places than Of tells, in one long row.
func TestTakesManyPlaces(t *testing.T) {
	const many = 100000
	p := api.Posits{First: []int{0}, Last: []int{many - 1}}
	for i := range many {
		p.Sets = append(p.Sets, set("a").Set)
		p.Follow = append(p.Follow, []int{i + 1})
	}
	b := []byte(strings.Repeat("a", many))
	if !posit.Takes(p, b) || posit.Takes(p, b[1:]) || posit.Takes(p, append(b, 'a')) {
		t.Error("many places in a row")
	}
}

// copied is p in other memory.
func copied(p api.Posits) api.Posits {
	p.Sets = slices.Concat(p.Sets)
	p.First, p.Last = slices.Concat(p.First), slices.Concat(p.Last)
	p.Follow = slices.Concat(p.Follow)
	for i := range p.Follow {
		p.Follow[i] = slices.Concat(p.Follow[i])
	}
	return p
}

const sample = "(ab|c)*(d(e|f)+|[^g]?)h*"

// P402: what Of tells is new memory: writing over one answer, its spare room too, is not seen in
// another, nor in the pattern; no two lists of one answer share memory.
func TestAnswersAreNew(t *testing.T) {
	x := read(t, sample)
	text := regex.Show(x)
	one, _ := posit.Of(x)
	two, _ := posit.Of(x)
	want := copied(two)
	taken := map[*int]bool{}
	for _, l := range append([][]int{one.First, one.Last}, one.Follow...) {
		l = l[:cap(l)]
		for i := range l {
			if taken[&l[i]] {
				t.Error("two lists share memory")
			}
			taken[&l[i]] = true
			l[i] = -5
		}
	}
	for i := range one.Sets[:cap(one.Sets)] {
		one.Sets[:cap(one.Sets)][i] = [4]uint64{5, 5, 5, 5}
	}
	for i := range one.Follow[:cap(one.Follow)] {
		one.Follow[:cap(one.Follow)][i] = nil
	}
	if len(taken) < 20 || !same(two, want) || regex.Show(x) != text {
		t.Errorf("writing over one answer is seen elsewhere: %s", told(two))
	}
	if again, e := posit.Of(x); e != api.OK || !same(again, want) {
		t.Errorf("Of again: %s, %v", told(again), e)
	}
}

// P402: what is handed in to Of stays as it is, its spare room too, and is not kept.
func TestHandedInToOfStays(t *testing.T) {
	spare := set("#")
	roomy := func(kids ...api.Re) []api.Re { return append(kids, spare, spare)[:len(kids)] }
	x := api.Re{Op: api.RCat, Kids: roomy(
		api.Re{Op: api.RStar, Kids: roomy(set("a"), set("b"))},
		api.Re{Op: api.RAlt, Kids: roomy(set("c"), api.Re{}, opt(set("d")))},
	)}
	lists := [][]api.Re{x.Kids, x.Kids[0].Kids, x.Kids[1].Kids}
	text := regex.Show(x)
	p := has(t, "roomy", x, 3)
	want := copied(p)
	if told(p) != "null first 0 1 2 last 0 1 2 [0 1 2] [] []" || regex.Show(x) != text || regex.Show(lists[1][1]) != "b" {
		t.Errorf("%s of what is now %q", told(p), regex.Show(x))
	}
	for _, l := range lists {
		for _, y := range l[len(l):cap(l)][:2] {
			if y.Op != api.RSet || y.Set != spare.Set || y.Kids != nil {
				t.Errorf("spare room: %v", y)
			}
		}
	}
	lists[1][0], lists[2][0] = set("z"), cat(set("y"), set("y"))
	if !same(p, want) {
		t.Errorf("an answer has turned: %s", told(p))
	}
	if q := has(t, "turned", x, 4); q.Sets[0] != set("z").Set {
		t.Errorf("what was handed in ahead of this is told: %v", q.Sets)
	}
}

// P402: what is handed in to Takes stays as it is, its spare room too, and is not kept.
func TestHandedInToTakesStays(t *testing.T) {
	roomy := func(l ...int) []int { return append(l, -7, -7)[:len(l)] }
	p := api.Posits{
		Sets:   append([][4]uint64{set("a").Set, set("ab").Set}, [4]uint64{7})[:2],
		Null:   true,
		First:  roomy(1, 0, 0),
		Last:   roomy(1, 9, -1),
		Follow: append([][]int{roomy(1, 0), roomy(0, 1, 1)}, []int{7})[:2],
	}
	was := copied(p)
	b := []byte("abaab##")[:5]
	for range 2 {
		if !posit.Takes(p, b) || !posit.Takes(p, b[:1]) || !posit.Takes(p, nil) || posit.Takes(p, b[:7]) {
			t.Error("not taken, or taken")
		}
	}
	if !same(p, was) || string(b[:7]) != "abaab##" || p.Sets[:3][2] != [4]uint64{7} || !slices.Equal(p.Follow[:3][2], []int{7}) {
		t.Errorf("now %s, %q", told(p), b[:7])
	}
	for _, l := range [][]int{p.First, p.Last, p.Follow[0], p.Follow[1]} {
		if !slices.Equal(l[len(l):][:2], []int{-7, -7}) {
			t.Errorf("spare room: %v", l[:len(l)+2])
		}
	}
	p.Sets[0], p.Sets[1] = set("c").Set, set("c").Set
	if posit.Takes(p, b) || !posit.Takes(p, []byte("cc")) {
		t.Error("what was handed in ahead of this is asked")
	}
}

// P402: a call hangs on its arguments alone: errors and other patterns ahead of it, and calls at the same time, change nothing.
func TestCallsHangOnArgumentsAlone(t *testing.T) {
	x := read(t, sample)
	want, _ := posit.Of(x)
	others := []api.Re{{}, read(t, "a*b"), tower(300, api.RStar, x), cat(slices.Repeat([]api.Re{x}, 40)...), of(99, x)}
	var group sync.WaitGroup
	for range 8 {
		group.Go(func() {
			for _, other := range others {
				one, e := posit.Of(other)
				posit.Takes(one, []byte("aab"))
				if p, e := posit.Of(x); e != api.OK || !same(p, want) || !posit.Takes(p, []byte("abcdefh")) || posit.Takes(p, []byte("abg")) {
					t.Errorf("Of the sample: %s, %v", told(p), e)
				}
				if two, again := posit.Of(other); again != e || !same(one, two) {
					t.Errorf("Of again: %s, %v; ahead: %s, %v", told(two), again, told(one), e)
				}
			}
		})
	}
	group.Wait()
}
