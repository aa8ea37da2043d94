package span

import (
	"math"
	"math/big"
	"math/rand"
	"slices"
	"testing"

	"quincunx/api"
	"quincunx/hnf"
	"quincunx/kernel"
	"quincunx/rows"
	"quincunx/vec"
	"quincunx/whole"
)

const (
	top  = math.MaxUint32
	mark = 0xdeadbeef
)

// many is a number of n limbs.
func many(n int) api.Int {
	return api.Int{Mag: slices.Repeat([]uint32{top}, n)}
}

// vector is short for a vector of ints.
func vector(l ...int) api.Vec {
	return vec.Of(l)
}

// list is short for rows of ints.
func list(l ...[]int) []api.Vec {
	var out []api.Vec
	for _, row := range l {
		out = append(out, vec.Of(row))
	}
	return out
}

// lone is n noughts, but for x at place i.
func lone(n, i int, x api.Int) api.Vec {
	v := make(api.Vec, n)
	v[i] = x
	return v
}

// units are n unit rows.
func units(n int) []api.Vec {
	var out []api.Vec
	for i := range n {
		out = append(out, lone(n, i, whole.Of(1)))
	}
	return out
}

// noughts are 0 in all its forms.
func noughts() api.Vec {
	var all api.Vec
	for _, mag := range [][]uint32{nil, {}, {0}, {0, 0}, make([]uint32, 100)} {
		all = append(all, api.Int{Mag: mag}, api.Int{Neg: true, Mag: mag})
	}
	return all
}

// padded is v, each place with noughts behind its limbs, and 0 with a sign too.
func padded(v api.Vec) api.Vec {
	var out api.Vec
	for _, a := range v {
		out = append(out, api.Int{Neg: a.Neg || len(a.Mag) == 0, Mag: append(slices.Clone(a.Mag), 0, 0)})
	}
	return out
}

// plain is v in its one form, by another way than the program's.
func plain(v api.Vec) api.Vec {
	out := api.Vec{}
	for _, a := range v {
		out = append(out, number(value(a)))
	}
	return out
}

// each is every row turned by f.
func each(l []api.Vec, f func(api.Vec) api.Vec) []api.Vec {
	var out []api.Vec
	for _, v := range l {
		out = append(out, f(v))
	}
	return out
}

// alike holds two Ints against each other limb by limb: not only by their values.
func alike(a, b api.Int) bool {
	return a.Neg == b.Neg && slices.Equal(a.Mag, b.Mag)
}

// alikeVectors asks for as many places, limb by limb.
func alikeVectors(v, w api.Vec) bool {
	return slices.EqualFunc(v, w, alike)
}

// alikeRows asks for as many rows, each of as many places, limb by limb.
func alikeRows(a, b []api.Vec) bool {
	return slices.EqualFunc(a, b, alikeVectors)
}

func value(a api.Int) *big.Int {
	v := new(big.Int)
	for _, x := range slices.Backward(a.Mag) {
		v.Lsh(v, 32)
		v.Or(v, big.NewInt(int64(x)))
	}
	if a.Neg {
		v.Neg(v)
	}
	return v
}

// number is an Int in its one form, by another way than the program's.
func number(v *big.Int) api.Int {
	a := api.Int{Neg: v.Sign() < 0}
	low := big.NewInt(top)
	for v = new(big.Int).Abs(v); v.Sign() > 0; v.Rsh(v, 32) {
		a.Mag = append(a.Mag, uint32(new(big.Int).And(v, low).Uint64()))
	}
	return a
}

// formed is the form of rows' lattice.
func formed(t *testing.T, l []api.Vec, n int) []api.Vec {
	t.Helper()
	h, e := hnf.Hnf(l, n)
	if e != api.OK {
		t.Fatalf("Hnf(%v, %d): %v", l, n, e)
	}
	return h
}

// within tells whether v is in h's lattice, by another way than the program's: just then the form stays with v among the rows.
func within(t *testing.T, h []api.Vec, v api.Vec) bool {
	t.Helper()
	return alikeRows(formed(t, append(slices.Clip(h), v), len(v)), h)
}

// sum is the sum of h's rows, each times c's place of its number, by another way than the program's.
func sum(c api.Vec, h []api.Vec, n int) api.Vec {
	v := make(api.Vec, n)
	for j := range n {
		all := new(big.Int)
		for i, row := range h {
			all.Add(all, new(big.Int).Mul(value(c[i]), value(row[j])))
		}
		v[j] = number(all)
	}
	return v
}

// chosen are that many rows of n places from -span to span.
func chosen(chance *rand.Rand, many, n, span int) []api.Vec {
	var l []api.Vec
	for range many {
		v := make(api.Vec, n)
		for i := range v {
			v[i] = whole.Of(chance.Intn(2*span+1) - span)
		}
		l = append(l, v)
	}
	return l
}

// sample is rows and how many places they have, or are said to have.
type sample struct {
	h []api.Vec
	n int
}

// lattices are rows in the form: none, one, as many as places, pivots apart, with small multiples alone in them, of many limbs, and with noughts behind their limbs.
func lattices(t *testing.T) []sample {
	t.Helper()
	odd, huge := many(5), many(40)
	all := []sample{
		{nil, 1}, {[]api.Vec{}, 3}, {nil, 64}, {list([]int{1}), 1}, {list([]int{6}), 1}, {list([]int{2, 4}), 2}, {list([]int{1, 2}), 2}, {list([]int{0, 5}), 2}, {list([]int{3, -1}), 2}, {list([]int{2, 1, 0}, []int{0, 3, 5}), 3},
		{list([]int{1, 0, 3}, []int{0, 2, 5}), 3}, {list([]int{2, 0, 0}, []int{0, 3, 0}, []int{0, 0, 5}), 3}, {list([]int{0, 2, 2, 0}, []int{0, 0, 4, 6}), 4}, {list([]int{4, 3, -8, 7}, []int{0, 5, 0, 1}, []int{0, 0, 0, 10}), 4},
		{[]api.Vec{{odd, whole.Neg(huge)}}, 2}, {[]api.Vec{{huge, odd, whole.Neg(huge)}, {{}, huge, odd}}, 3}, {[]api.Vec{{odd, {}}, {{}, huge}}, 2}, {[]api.Vec{lone(64, 63, odd)}, 64}, {[]api.Vec{lone(64, 0, odd), lone(64, 63, huge)}, 64}, {units(64), 64},
	}
	chance := rand.New(rand.NewSource(12))
	for _, size := range [][2]int{{1, 1}, {1, 4}, {2, 2}, {2, 3}, {3, 3}, {3, 5}, {4, 4}, {4, 7}, {6, 6}, {3, 12}, {7, 12}} {
		for _, span := range []int{1, 4, 100} {
			l := chosen(chance, size[0], size[1], span)
			// Sums of rows, so that the rows do not have all whole vectors of their multiples.
			coarse := rows.Product(chosen(chance, size[0], size[0], 3), l)
			all = append(all, sample{formed(t, l, size[1]), size[1]}, sample{formed(t, coarse, size[1]), size[1]})
		}
	}
	for _, s := range slices.Clone(all) {
		if !hnf.Is(s.h, s.n) {
			t.Fatalf("%v is not in the form", s)
		}
		all = append(all, sample{each(s.h, padded), s.n})
	}
	return all
}

// wrong are rows that are not in the form, by n, and such n as there are none for.
func wrong() []sample {
	return []sample{
		{nil, 0}, {nil, -1}, {nil, 65}, {nil, math.MinInt}, {nil, math.MaxInt}, {[]api.Vec{}, 0}, {[]api.Vec{nil}, 0}, {[]api.Vec{nil}, 1}, {[]api.Vec{{}, {}}, -1},
		{list([]int{1, 2}), 1}, {list([]int{1, 2}), 3}, {list([]int{1, 2}), 0}, {list([]int{1, 2}), -2}, {list([]int{1, 2}), 65}, {list([]int{1, 2}, []int{0, 3, 0}), 2}, {list([]int{1, 2}, []int{0}), 2}, {list([]int{1, 0}, nil), 2},
		{list([]int{0}), 1}, {list([]int{0, 0}), 2}, {[]api.Vec{noughts()}, 10}, {list([]int{1, 0}, []int{0, 0}), 2}, {list([]int{0, 0}, []int{0, 1}), 2}, {list([]int{-1}), 1}, {list([]int{-1, 0}), 2}, {list([]int{1, 0}, []int{0, -3}), 2},
		{list([]int{0, 1}, []int{1, 0}), 2}, {list([]int{1, 0}, []int{1, 1}), 2}, {list([]int{1, 2}, []int{1, 2}), 2}, {list([]int{1, 3}, []int{0, 3}), 2}, {list([]int{1, -1}, []int{0, 3}), 2}, {list([]int{1, 0, 7}, []int{0, 1, 0}, []int{0, 0, 7}), 3},
		{[]api.Vec{lone(65, 0, whole.Of(1))}, 65}, {[]api.Vec{lone(65, 0, whole.Of(1))}, 64}, {[]api.Vec{lone(64, 0, whole.Of(1))}, 63}, {units(65), 65}, {units(3), 2}, {each(units(2), vec.Neg), 2},
	}
}

// ask holds Coords, Has and Rest against what is wanted; c is nil, if v is not in the lattice.
func ask(t *testing.T, h []api.Vec, v, c, rest api.Vec) {
	t.Helper()
	got, ok := Coords(h, v)
	if ok != (c != nil) || !alikeVectors(got, c) {
		t.Errorf("Coords(%v, %v) is %v, %v, want %v", h, v, got, ok, c)
	}
	if Has(h, v) != (c != nil) {
		t.Errorf("Has(%v, %v) is %v", h, v, Has(h, v))
	}
	if got := Rest(h, v); !alikeVectors(got, rest) {
		t.Errorf("Rest(%v, %v) is %v, want %v", h, v, got, rest)
	}
}

// P12.1: sums of rows, such as are none, such as a multiple alone of is one, numbers below 0, no rows.
func TestCoords(t *testing.T) {
	two := [][]int{{2, 1, 0}, {0, 3, 5}}
	apart := [][]int{{0, 4, 1, 0, 6}, {0, 0, 0, 5, -2}}
	for _, x := range []struct {
		h          [][]int
		v, c, rest []int
	}{
		{nil, []int{0}, []int{}, []int{0}}, {nil, []int{0, 0, 0}, []int{}, []int{0, 0, 0}}, {nil, []int{1}, nil, []int{1}}, {nil, []int{0, -7}, nil, []int{0, -7}},
		{[][]int{{1}}, []int{-9}, []int{-9}, []int{0}}, {[][]int{{6}}, []int{0}, []int{0}, []int{0}}, {[][]int{{6}}, []int{12}, []int{2}, []int{0}}, {[][]int{{6}}, []int{13}, nil, []int{1}}, {[][]int{{6}}, []int{5}, nil, []int{5}}, {[][]int{{6}}, []int{6}, []int{1}, []int{0}}, {[][]int{{6}}, []int{-6}, []int{-1}, []int{0}}, {[][]int{{6}}, []int{-1}, nil, []int{5}}, {[][]int{{6}}, []int{-7}, nil, []int{5}},
		// A multiple alone.
		{[][]int{{2, 4}}, []int{1, 2}, nil, []int{1, 2}}, {[][]int{{2, 4}}, []int{-1, -2}, nil, []int{1, 2}}, {[][]int{{2, 4}}, []int{3, 6}, nil, []int{1, 2}}, {[][]int{{2, 4}}, []int{-2, -4}, []int{-1}, []int{0, 0}}, {[][]int{{2, 4}}, []int{6, 12}, []int{3}, []int{0, 0}},
		// The pivot's place goes, others do not.
		{[][]int{{2, 4}}, []int{2, 5}, nil, []int{0, 1}}, {[][]int{{2, 4}}, []int{0, 4}, nil, []int{0, 4}}, {[][]int{{0, 5}}, []int{3, -10}, nil, []int{3, 0}}, {[][]int{{0, 5}}, []int{-3, -1}, nil, []int{-3, 4}}, {[][]int{{3, 1}}, []int{-4, 0}, nil, []int{2, 2}},
		{two, []int{0, 0, 0}, []int{0, 0}, []int{0, 0, 0}}, {two, []int{2, 1, 0}, []int{1, 0}, []int{0, 0, 0}}, {two, []int{0, 3, 5}, []int{0, 1}, []int{0, 0, 0}}, {two, []int{2, 4, 5}, []int{1, 1}, []int{0, 0, 0}}, {two, []int{-6, 12, 25}, []int{-3, 5}, []int{0, 0, 0}}, {two, []int{4, -4, -10}, []int{2, -2}, []int{0, 0, 0}},
		{two, []int{2, 4, 6}, nil, []int{0, 0, 1}}, {two, []int{1, 0, 0}, nil, []int{1, 0, 0}}, {two, []int{-1, 0, 0}, nil, []int{1, 1, 0}}, {two, []int{-1, -1, -1}, nil, []int{1, 0, -1}}, {two, []int{0, 2, 0}, nil, []int{0, 2, 0}}, {two, []int{0, -1, 0}, nil, []int{0, 2, 5}}, {two, []int{5, 5, 5}, nil, []int{1, 0, 0}},
		{apart, []int{0, -4, -1, 10, -10}, []int{-1, 2}, []int{0, 0, 0, 0, 0}}, {apart, []int{1, -4, -1, 10, -10}, nil, []int{1, 0, 0, 0, 0}}, {apart, []int{0, -1, 0, -1, 0}, nil, []int{0, 3, 1, 4, 4}}, {apart, []int{-9, 4, -5, 5, 0}, nil, []int{-9, 0, -6, 0, -4}},
		{[][]int{{math.MaxInt, 1}}, []int{math.MinInt, 0}, nil, []int{math.MaxInt - 1, 2}}, {[][]int{{1, 0}, {0, math.MaxInt}}, []int{math.MinInt, math.MinInt}, nil, []int{0, math.MaxInt - 1}},
	} {
		c := vec.Of(x.c)
		if x.c == nil {
			c = nil
		}
		for _, h := range [][]api.Vec{list(x.h...), each(list(x.h...), padded)} {
			ask(t, h, vec.Of(x.v), c, vec.Of(x.rest))
			ask(t, h, padded(vec.Of(x.v)), c, vec.Of(x.rest))
		}
	}
}

// P12.1: numbers of many limbs, 0 in all its forms, 64 places.
func TestCoordsGreat(t *testing.T) {
	a, b, one := many(30), many(20), whole.Of(1)
	row := []api.Vec{{a, whole.Neg(b)}}
	for _, times := range []api.Int{{}, one, whole.Of(-1), b, whole.Neg(whole.Mul(a, a))} {
		v := vec.Times(row[0], times)
		ask(t, row, v, api.Vec{times}, vector(0, 0))
		ask(t, row, vec.Add(v, api.Vec{one}), nil, vector(1, 0))
		ask(t, row, vec.Sub(v, api.Vec{one}), nil, api.Vec{whole.Sub(a, one), whole.Neg(b)})
		ask(t, row, vec.Add(v, api.Vec{{}, a}), nil, api.Vec{{}, a})
	}
	ask(t, []api.Vec{{whole.Mul(a, b)}}, api.Vec{a}, nil, api.Vec{a})
	ask(t, nil, noughts(), api.Vec{}, make(api.Vec, 10))
	ask(t, units(10), noughts(), make(api.Vec, 10), make(api.Vec, 10))
	ask(t, nil, make(api.Vec, 64), api.Vec{}, make(api.Vec, 64))
	ask(t, units(64), slices.Repeat(api.Vec{whole.Neg(a)}, 64), slices.Repeat(api.Vec{whole.Neg(a)}, 64), make(api.Vec, 64))
	ask(t, []api.Vec{lone(64, 63, a)}, lone(64, 63, whole.Mul(a, b)), api.Vec{b}, make(api.Vec, 64))
	ask(t, []api.Vec{lone(64, 63, a)}, lone(64, 62, a), nil, lone(64, 62, a))
}

// P12.1: rows that are not in the form, with v's places; v without places, with fewer and with more than the rows, with more than 64: false, and v itself, in its one form.
func TestNotInTheForm(t *testing.T) {
	for _, s := range wrong() {
		if s.n < 0 || s.n > 65 {
			continue
		}
		for _, v := range []api.Vec{make(api.Vec, s.n), padded(make(api.Vec, s.n)), slices.Repeat(vector(-7), s.n), slices.Repeat(api.Vec{{Neg: true, Mag: []uint32{1, top, 0}}}, s.n)} {
			ask(t, s.h, v, nil, plain(v))
		}
	}
	for _, h := range [][]api.Vec{nil, {}, list([]int{1}), list([]int{2, 4}), list([]int{1, 0, 3}, []int{0, 2, 5}), {nil}, units(64)} {
		for _, v := range []api.Vec{nil, {}, make(api.Vec, 65), slices.Repeat(vector(3), 65), slices.Repeat(vector(-3, 0), 100), padded(slices.Repeat(vector(-3, 0), 100))} {
			ask(t, h, v, nil, plain(v))
		}
	}
	h := list([]int{1, 0, 3}, []int{0, 2, 5})
	for _, v := range []api.Vec{vector(0, 0), vector(0, 0, 0, 0), vector(1, 0), vector(1, 0, 3, 0), vector(9, -9), vector(-9, 9, 9, -9)} {
		ask(t, h, v, nil, v)
	}
}

// P12.1, P12.3: of all sorts of lattices: sums of rows have just their numbers, what is near them its rest.
func TestCoordsMany(t *testing.T) {
	chance := rand.New(rand.NewSource(120))
	for _, s := range lattices(t) {
		for _, span := range []int{0, 1, 50, math.MaxInt / 4} {
			c := chosen(chance, 1, len(s.h), span)[0]
			for _, c := range []api.Vec{c, vec.Times(c, many(9))} {
				v := sum(c, s.h, s.n)
				ask(t, s.h, v, c, make(api.Vec, s.n))
				for _, off := range append(chosen(chance, 3, s.n, 2), chosen(chance, 3, s.n, 1000)...) {
					checkRest(t, s.h, off, vec.Add(v, off))
				}
			}
		}
	}
}

// checkRest asks by the words of the promises for the rest of v, whose difference to w is in the lattice.
func checkRest(t *testing.T, h []api.Vec, w, v api.Vec) {
	t.Helper()
	form := each(h, plain)
	rest := Rest(h, v)
	if len(rest) != len(v) || !alikeVectors(rest, plain(rest)) || !alikeVectors(rest, Rest(h, w)) || !alikeVectors(rest, Rest(h, rest)) {
		t.Errorf("Rest(%v, ..) of %v is %v, of %v %v, of that %v", h, v, rest, w, Rest(h, w), Rest(h, rest))
	}
	for i, at := range hnf.Pivots(h) {
		if value(rest[at]).Sign() < 0 || value(rest[at]).Cmp(value(h[i][at])) >= 0 {
			t.Errorf("Rest(%v, %v) is %v at place %d", h, v, rest[at], at)
		}
	}
	if !within(t, form, vec.Sub(v, rest)) {
		t.Errorf("Rest(%v, %v) is %v, less by no sum of rows", h, v, rest)
	}
	is := within(t, form, v)
	c, ok := Coords(h, v)
	if ok != is || Has(h, v) != is || vec.Nought(rest) != is || ok && !alikeVectors(sum(c, h, len(v)), plain(v)) {
		t.Errorf("Coords(%v, %v) is %v, %v, its rest %v, want %v", h, v, c, ok, rest, is)
	}
}

// smallForms are all rows of two places in the form, with numbers up to 3.
func smallForms() [][]api.Vec {
	all := [][]api.Vec{nil}
	for p := 1; p <= 3; p++ {
		all = append(all, list([]int{0, p}))
		for x := -3; x <= 3; x++ {
			all = append(all, list([]int{p, x}))
		}
		for q := 1; q <= 3; q++ {
			for x := range q {
				all = append(all, list([]int{p, x}, []int{0, q}))
			}
		}
	}
	return all
}

// sums are all sums of small multiples of h's rows, by their two places.
func sums(h []api.Vec) map[[2]int]int {
	var r [2][2]int
	for i, row := range h {
		r[i][0], _ = whole.Small(row[0])
		r[i][1], _ = whole.Small(row[1])
	}
	all := map[[2]int]int{}
	for a := -40; a <= 40; a++ {
		for b := -40; b <= 40; b++ {
			all[[2]int{a*r[0][0] + b*r[1][0], a*r[0][1] + b*r[1][1]}]++
		}
	}
	return all
}

// P12.1, P12.3: of all small lattices of two places: Has is true just of the sums of rows, Rest is 0 just of these, and the same just of two vectors whose difference is one.
func TestAllSmall(t *testing.T) {
	for _, h := range smallForms() {
		in := sums(h)
		rests := map[[2]int]api.Vec{}
		for x := -4; x <= 4; x++ {
			for y := -4; y <= 4; y++ {
				v := vector(x, y)
				rest, is := Rest(h, v), in[[2]int{x, y}] > 0
				if Has(h, v) != is || vec.Nought(rest) != is {
					t.Errorf("%v: Has of %v is %v, Rest %v, want %v", h, v, Has(h, v), rest, is)
				}
				for w, other := range rests {
					if alikeVectors(rest, other) != (in[[2]int{x - w[0], y - w[1]}] > 0) {
						t.Errorf("%v: Rest of %v is %v, of %v %v", h, v, rest, w, other)
					}
				}
				rests[[2]int{x, y}] = rest
			}
		}
	}
}

// expectWhole asks Whole and Index.
func expectWhole(t *testing.T, h []api.Vec, n int, want []api.Vec, index api.Int) {
	t.Helper()
	if w := Whole(h, n); !alikeRows(w, want) {
		t.Errorf("Whole(%v, %d) is %v, want %v", h, n, w, want)
	}
	if x := Index(h, n); !alike(x, index) {
		t.Errorf("Index(%v, %d) is %v, want %v", h, n, x, index)
	}
}

// P12.2: the document's example, rows that have all whole vectors of their multiples already, such as have not, no rows.
func TestWhole(t *testing.T) {
	for _, x := range []struct {
		n, index int
		h, want  [][]int
	}{
		{2, 2, [][]int{{2, 4}}, [][]int{{1, 2}}},
		{1, 1, nil, nil}, {2, 1, nil, nil}, {64, 1, nil, nil},
		// All are there already.
		{1, 1, [][]int{{1}}, [][]int{{1}}}, {2, 1, [][]int{{1, 2}}, [][]int{{1, 2}}}, {2, 1, [][]int{{0, 1}}, [][]int{{0, 1}}}, {2, 1, [][]int{{3, -5}}, [][]int{{3, -5}}}, {2, 1, [][]int{{1, 0}, {0, 1}}, [][]int{{1, 0}, {0, 1}}}, {3, 1, [][]int{{1, 0, -1}, {0, 1, -1}}, [][]int{{1, 0, -1}, {0, 1, -1}}}, {3, 1, [][]int{{2, 1, 0}, {0, 3, 5}}, [][]int{{2, 1, 0}, {0, 3, 5}}}, {3, 1, [][]int{{6, 10, 15}}, [][]int{{6, 10, 15}}}, {3, 1, [][]int{{1, 1, -1}, {0, 3, -2}}, [][]int{{1, 1, -1}, {0, 3, -2}}},
		// Some are not.
		{1, 7, [][]int{{7}}, [][]int{{1}}}, {2, 6, [][]int{{2, 0}, {0, 3}}, [][]int{{1, 0}, {0, 1}}}, {2, 5, [][]int{{1, 2}, {0, 5}}, [][]int{{1, 0}, {0, 1}}}, {2, 4, [][]int{{0, 4}}, [][]int{{0, 1}}}, {2, 3, [][]int{{9, -6}}, [][]int{{3, -2}}}, {3, 30, [][]int{{2, 0, 0}, {0, 3, 0}, {0, 0, 5}}, [][]int{{1, 0, 0}, {0, 1, 0}, {0, 0, 1}}}, {3, 5, [][]int{{30, 50, 75}}, [][]int{{6, 10, 15}}},
		// Neither row is a multiple, but a sum of them is.
		{3, 2, [][]int{{1, 1, 0}, {0, 2, 2}}, [][]int{{1, 0, -1}, {0, 1, 1}}}, {3, 2, [][]int{{1, 0, 1}, {0, 2, 0}}, [][]int{{1, 0, 1}, {0, 1, 0}}}, {3, 3, [][]int{{1, 1, 1}, {0, 3, 6}}, [][]int{{1, 0, -1}, {0, 1, 2}}}, {3, 4, [][]int{{2, 2, 0}, {0, 4, 2}}, [][]int{{1, 1, 0}, {0, 2, 1}}}, {3, 2, [][]int{{2, 1, 1}, {0, 2, 0}}, [][]int{{2, 0, 1}, {0, 1, 0}}}, {3, 1, [][]int{{1, 2, 0}, {0, 3, 1}}, [][]int{{1, 2, 0}, {0, 3, 1}}}, {4, 4, [][]int{{0, 2, 2, 0}, {0, 0, 4, 6}}, [][]int{{0, 1, 1, 0}, {0, 0, 2, 3}}},
	} {
		for _, h := range [][]api.Vec{list(x.h...), each(list(x.h...), padded)} {
			expectWhole(t, h, x.n, list(x.want...), whole.Of(x.index))
			checkWhole(t, h, x.n)
		}
	}
	a, b := many(30), many(20)
	next := whole.Add(a, whole.Of(1))
	expectWhole(t, []api.Vec{{a}}, 1, units(1), a)
	expectWhole(t, []api.Vec{{whole.Mul(a, b), whole.Neg(whole.Mul(next, b))}}, 2, []api.Vec{{a, whole.Neg(next)}}, b)
	expectWhole(t, []api.Vec{{a, {}}, {{}, b}}, 2, units(2), whole.Mul(a, b))
	expectWhole(t, []api.Vec{lone(64, 0, a), lone(64, 63, b)}, 64, []api.Vec{lone(64, 0, whole.Of(1)), lone(64, 63, whole.Of(1))}, whole.Mul(a, b))
	expectWhole(t, units(64), 64, units(64), whole.Of(1))
}

// checkWhole asks by the words of the promises: rows in the form, as many as h's, h's among their sums, all of theirs by multiples among h's, and none missed; the index by another way; Whole of Whole.
func checkWhole(t *testing.T, h []api.Vec, n int) {
	t.Helper()
	w, index := Whole(h, n), Index(h, n)
	if !hnf.Is(w, n) || len(w) != len(h) || !alikeRows(w, each(w, plain)) || !alike(index, number(value(index))) {
		t.Fatalf("Whole(%v, %d) is %v, %v", h, n, w, index)
	}
	for _, v := range h {
		if !within(t, w, plain(v)) {
			t.Errorf("Whole(%v, %d) is %v, without %v", h, n, w, v)
		}
	}
	for _, v := range w {
		// The index is a multiple that is in the lattice of each vector of Whole's.
		if !within(t, each(h, plain), vec.Times(v, index)) {
			t.Errorf("Whole(%v, %d) is %v: %v is not in it, times %v neither", h, n, w, v, index)
		}
	}
	// No whole vector of which a multiple is a sum of w's rows is missed just if the columns make up every vector.
	if len(w) > 0 && !alikeRows(formed(t, rows.Turn(w, n), len(w)), units(len(w))) {
		t.Errorf("Whole(%v, %d) has not all: %v", h, n, w)
	}
	if again, one := Whole(w, n), Index(w, n); !alikeRows(again, w) || !alike(one, whole.Of(1)) {
		t.Errorf("Whole(%v, %d) is %v, Whole of that %v, its index %v", h, n, w, again, one)
	}
	if want := byColumns(t, h, n); !alike(index, want) {
		t.Errorf("Index(%v, %d) is %v, want %v", h, n, index, want)
	}
}

// byColumns is the index by another way than the program's: that of the columns' lattice, whose form has as many rows as h.
func byColumns(t *testing.T, h []api.Vec, n int) api.Int {
	t.Helper()
	product := big.NewInt(1)
	if len(h) > 0 {
		for i, row := range formed(t, rows.Turn(h, n), len(h)) {
			product.Mul(product, value(row[i]))
		}
	}
	return number(product)
}

// P12.2, P12.3: of all sorts of lattices, and of small ones against all vectors about nought.
func TestWholeMany(t *testing.T) {
	for _, s := range lattices(t) {
		checkWhole(t, s.h, s.n)
	}
	for _, h := range smallForms() {
		checkWhole(t, h, 2)
		in, w := sums(h), Whole(h, 2)
		for x := -4; x <= 4; x++ {
			for y := -4; y <= 4; y++ {
				if want := anyMultiple(in, x, y); within(t, w, vector(x, y)) != want {
					t.Errorf("Whole(%v, 2) is %v: is %v, %v in it? want %v", h, w, x, y, want)
				}
			}
		}
	}
}

// anyMultiple tells whether a small multiple of x, y is among those sums; of small rows small ones are enough.
func anyMultiple(in map[[2]int]int, x, y int) bool {
	for q := 1; q <= 9; q++ {
		if in[[2]int{q * x, q * y}] > 0 {
			return true
		}
	}
	return false
}

// P12.2: 64 places, and many rows.
func TestGreat(t *testing.T) {
	chance := rand.New(rand.NewSource(1200))
	for _, size := range [][2]int{{1, 64}, {20, 64}, {63, 64}, {64, 64}, {12, 12}} {
		h := formed(t, chosen(chance, size[0], size[1], 4), size[1])
		checkWhole(t, h, size[1])
		c := chosen(chance, 1, len(h), 100)[0]
		ask(t, h, sum(c, h, size[1]), c, make(api.Vec, size[1]))
		checkRest(t, h, lone(size[1], 0, many(3)), vec.Add(sum(c, h, size[1]), lone(size[1], 0, many(3))))
	}
	// Three times a lattice that has all goes into it three times for each row.
	fine, _ := kernel.Of(chosen(chance, 20, 64, 4), 64)
	coarse := each(fine, func(v api.Vec) api.Vec { return vec.Times(v, whole.Of(3)) })
	expectWhole(t, fine, 64, fine, whole.Of(1))
	expectWhole(t, coarse, 64, fine, number(new(big.Int).Exp(big.NewInt(3), big.NewInt(44), nil)))
}

// P12.2: rows that are not in the form, n of 0, of 65 and below 0.
func TestWrong(t *testing.T) {
	for _, s := range wrong() {
		if w := Whole(s.h, s.n); w != nil {
			t.Errorf("Whole(%v, %d) is %v", s.h, s.n, w)
		}
		if x := Index(s.h, s.n); x.Neg || x.Mag != nil {
			t.Errorf("Index(%v, %d) is %v", s.h, s.n, x)
		}
		for _, cols := range [][]int{nil, {}, {0}, {0, 0}, {1, 0}, {-1}, {64}, {65}, make([]int, 64), make([]int, 65)} {
			if l := Pick(s.h, s.n, cols); l != nil {
				t.Errorf("Pick(%v, %d, %v) is %v", s.h, s.n, cols, l)
			}
		}
	}
}

// P12.2: one place, several, in another order, one that stands twice, none, such as there are not.
func TestPick(t *testing.T) {
	two := [][]int{{1, 0, 3}, {0, 2, 5}}
	for _, x := range []struct {
		h    [][]int
		n    int
		cols []int
		want [][]int
	}{
		{two, 3, []int{0, 1, 2}, two}, {two, 3, []int{0}, [][]int{{1}}}, {two, 3, []int{1}, [][]int{{2}}}, {two, 3, []int{2}, [][]int{{1}}}, {two, 3, []int{2, 1}, [][]int{{1, 4}, {0, 6}}}, {two, 3, []int{1, 2}, [][]int{{2, 2}, {0, 3}}}, {two, 3, []int{1, 0}, [][]int{{2, 0}, {0, 1}}}, {two, 3, []int{2, 1, 0}, [][]int{{1, 4, -3}, {0, 6, -5}}},
		{two, 3, []int{0, 0}, [][]int{{1, 1}}}, {two, 3, []int{1, 1, 1}, [][]int{{2, 2, 2}}}, {two, 3, []int{0, 1, 0}, [][]int{{1, 0, 1}, {0, 2, 0}}}, {two, 3, []int{2, 2, 1}, [][]int{{1, 1, 4}, {0, 0, 6}}},
		{two, 3, nil, nil}, {two, 3, []int{}, nil}, {two, 3, []int{-1}, nil}, {two, 3, []int{3}, nil}, {two, 3, []int{0, 3}, nil}, {two, 3, []int{3, 0}, nil}, {two, 3, []int{0, -1, 1}, nil}, {two, 3, []int{0, math.MinInt}, nil}, {two, 3, []int{math.MaxInt, 0}, nil}, {two, 3, []int{0, 1, 2, 64}, nil},
		{[][]int{{0, 3}}, 2, []int{0}, nil}, {[][]int{{0, 3}}, 2, []int{0, 0}, nil}, {[][]int{{0, 3}}, 2, []int{1, 0}, [][]int{{3, 0}}}, {[][]int{{3, -2}}, 2, []int{1}, [][]int{{2}}}, {[][]int{{3, -2}}, 2, []int{1, 0}, [][]int{{2, -3}}}, {[][]int{{3, -2}}, 2, []int{2}, nil},
		{nil, 3, []int{0}, nil}, {nil, 3, []int{2, 2}, nil}, {nil, 3, nil, nil}, {nil, 3, []int{3}, nil}, {[][]int{{5}}, 1, []int{0}, [][]int{{5}}}, {[][]int{{5}}, 1, []int{0, 0, 0}, [][]int{{5, 5, 5}}}, {[][]int{{5}}, 1, []int{1}, nil},
		{[][]int{{1, 0, 6}, {0, 1, 10}}, 3, []int{2}, [][]int{{2}}}, {[][]int{{1, 0, 0}, {0, 1, 0}, {0, 0, 1}}, 3, []int{2, 0}, [][]int{{1, 0}, {0, 1}}},
	} {
		for _, h := range [][]api.Vec{list(x.h...), each(list(x.h...), padded)} {
			if l := Pick(h, x.n, x.cols); !alikeRows(l, list(x.want...)) {
				t.Errorf("Pick(%v, %d, %v) is %v, want %v", h, x.n, x.cols, l, x.want)
			}
		}
	}
}

// P12.2: 64 places, and 65, of few and of many.
func TestPickGreat(t *testing.T) {
	h := []api.Vec{lone(64, 0, many(3)), lone(64, 63, many(2))}
	var all []int
	for i := range 64 {
		all = append(all, i)
	}
	backwards := slices.Clone(all)
	slices.Reverse(backwards)
	for _, x := range []struct {
		h    []api.Vec
		n    int
		cols []int
		want []api.Vec
	}{
		{h, 64, all, h}, {h, 64, backwards, []api.Vec{lone(64, 0, many(2)), lone(64, 63, many(3))}}, {h, 64, []int{63}, []api.Vec{{many(2)}}}, {h, 64, []int{62}, nil}, {h, 64, []int{64}, nil}, {h, 64, append(slices.Clip(all), 0), nil}, {units(64), 64, backwards, units(64)}, {units(64), 64, append(slices.Clip(all), 63), nil},
		{list([]int{7, 3}), 2, make([]int, 64), list(slices.Repeat([]int{7}, 64))}, {list([]int{7, 3}), 2, make([]int, 65), nil}, {list([]int{7, 3}), 2, append(make([]int, 63), 1), list(append(slices.Repeat([]int{7}, 63), 3))}, {list([]int{7, 3}), 2, append(make([]int, 64), 1), nil}, {list([]int{7, 3}), 2, append(make([]int, 63), 2), nil}, {units(1), 1, make([]int, 1<<24), nil},
	} {
		if l := Pick(x.h, x.n, x.cols); !alikeRows(l, x.want) {
			t.Errorf("Pick(%v, %d, %v of them) is %v, want %v", x.h, x.n, len(x.cols), l, x.want)
		}
	}
}

// P12.2: held against Hnf of columns that rows.Turn tells.
func TestPickMany(t *testing.T) {
	chance := rand.New(rand.NewSource(12000))
	for _, s := range lattices(t) {
		turned := rows.Turn(s.h, s.n)
		for range 6 {
			var cols []int
			var picked []api.Vec
			for range 1 + chance.Intn(6) {
				at := chance.Intn(s.n)
				cols, picked = append(cols, at), append(picked, turned[at])
			}
			want := formed(t, rows.Turn(picked, len(s.h)), len(cols))
			if l := Pick(s.h, s.n, cols); !alikeRows(l, want) {
				t.Errorf("Pick(%v, %d, %v) is %v, want %v", s.h, s.n, cols, l, want)
			}
		}
	}
}

// call is one call by which rows and a vector may be changed, kept or told.
type call struct {
	name string
	do   func(h []api.Vec, v api.Vec, n int) []api.Vec
}

// calls tells small answers as rows too.
func calls() []call {
	truth := map[bool]int{true: 1}
	return []call{
		{"Coords", func(h []api.Vec, v api.Vec, n int) []api.Vec {
			c, ok := Coords(h, v)
			return append(list([]int{truth[ok]}), c)
		}},
		{"Has", func(h []api.Vec, v api.Vec, n int) []api.Vec { return list([]int{truth[Has(h, v)]}) }},
		{"Rest", func(h []api.Vec, v api.Vec, n int) []api.Vec { return []api.Vec{Rest(h, v)} }},
		{"Whole", func(h []api.Vec, v api.Vec, n int) []api.Vec { return Whole(h, n) }},
		{"Index", func(h []api.Vec, v api.Vec, n int) []api.Vec { return []api.Vec{{Index(h, n)}} }},
		{"Pick", func(h []api.Vec, v api.Vec, n int) []api.Vec { return Pick(h, n, []int{n - 1, 0, n - 1, 0}) }},
	}
}

// guard is rows with marks behind them, behind each one's places and behind each place's limbs; memory is all of the rows, places and limbs.
type guard struct {
	l, memory []api.Vec
	places    []api.Vec
	limbs     [][]uint32
}

func guarded(l []api.Vec) guard {
	var g guard
	for _, v := range l {
		var places api.Vec
		for _, a := range v {
			limbs := append(slices.Clone(a.Mag), mark, mark, mark)
			g.limbs = append(g.limbs, limbs)
			places = append(places, api.Int{Neg: a.Neg, Mag: limbs[:len(a.Mag)]})
		}
		places = append(places, whole.Of(mark), whole.Of(-1))
		g.places = append(g.places, places)
		g.memory = append(g.memory, places[:len(v)])
	}
	g.memory = append(g.memory, vector(mark), vector(-1, -2))
	g.l = g.memory[:len(l)]
	return g
}

// untouched tells whether all of the memory is as it is made of l.
func (g guard) untouched(l []api.Vec) bool {
	fresh := guarded(l)
	return alikeRows(g.memory, fresh.memory) && alikeRows(g.places, fresh.places) && slices.EqualFunc(g.limbs, fresh.limbs, slices.Equal)
}

// copied is l in memory of its own.
func copied(l []api.Vec) []api.Vec {
	return each(l, func(v api.Vec) api.Vec {
		var out api.Vec
		for _, a := range v {
			out = append(out, api.Int{Neg: a.Neg, Mag: slices.Clip(slices.Clone(a.Mag))})
		}
		return out
	})
}

// scribble spoils an Int's limbs, and what lies behind them.
func scribble(a api.Int) {
	for i := range a.Mag[:cap(a.Mag)] {
		a.Mag[:cap(a.Mag)][i] = mark + 1
	}
}

// spoilVector scribbles on a vector's places, and on what lies behind.
func spoilVector(v api.Vec) {
	for i, a := range v[:cap(v)] {
		scribble(a)
		v[:cap(v)][i] = whole.Of(mark)
	}
}

// spoil scribbles on rows, and on what lies behind.
func spoil(l []api.Vec) {
	for i, v := range l[:cap(l)] {
		spoilVector(v)
		l[:cap(l)][i] = vector(mark)
	}
}

// P12.1, P12.2 with R2: what is handed in is neither changed nor kept, what lies behind it is not read.
func TestHandedInStays(t *testing.T) {
	for _, s := range append(lattices(t), wrong()...) {
		n := min(max(s.n, 0), 70)
		vectors := []api.Vec{nil, make(api.Vec, n), slices.Repeat(padded(vector(-5)), n), slices.Repeat(api.Vec{many(7)}, n), slices.Repeat(vector(3), 80)}
		vectors = append(vectors, s.h[:min(len(s.h), 2)]...)
		for _, c := range calls() {
			for _, v := range vectors {
				checkStays(t, c, s, v)
			}
		}
	}
}

func checkStays(t *testing.T, c call, s sample, v api.Vec) {
	t.Helper()
	in, beside := guarded(s.h), guarded([]api.Vec{v})
	want := copied(c.do(copied(s.h), copied([]api.Vec{v})[0], s.n))
	got := c.do(in.l, beside.l[0], s.n)
	spoil(c.do(in.l, beside.l[0], s.n))
	if !alikeRows(got, want) {
		t.Errorf("%s of %v and %v hangs on what lies behind, or two calls' answers share memory", c.name, s, v)
	}
	checkApart(t, c.name, got)
	spoil(got)
	if !in.untouched(s.h) || !beside.untouched([]api.Vec{v}) {
		t.Errorf("%s of %v and %v: what is handed in is changed or shared", c.name, s, v)
	}
}

// checkApart spoils one number, one row behind the other: what is not spoilt yet must stay.
func checkApart(t *testing.T, name string, got []api.Vec) {
	t.Helper()
	want := copied(got)
	for i, v := range got {
		for j := range v {
			scribble(v[j])
			if !alikeVectors(v[j+1:], want[i][j+1:]) {
				t.Errorf("%s: row %d's place %d shares memory with one behind it", name, i, j)
			}
		}
		spoilVector(v)
		if !alikeRows(got[i+1:], want[i+1:]) {
			t.Errorf("%s: row %d shares memory with one behind it", name, i)
		}
	}
}

// P12.2 with R2: places that are handed in stay, and what lies behind them is not read.
func TestPlacesStay(t *testing.T) {
	h := list([]int{1, 0, 3}, []int{0, 2, 5})
	cols := []int{2, 1, 9, -9}
	if l := Pick(h, 3, cols[:2]); !alikeRows(l, list([]int{1, 4}, []int{0, 6})) || !slices.Equal(cols, []int{2, 1, 9, -9}) {
		t.Error(l, cols)
	}
}

// P12.1, P12.2 with R2: rows and a vector that share places and limbs.
func TestSharedMemory(t *testing.T) {
	mag := []uint32{2, 1, 0}
	v := api.Vec{{Mag: mag}, {Neg: true, Mag: mag[1:]}, {Neg: true, Mag: mag[2:]}, {Mag: mag[:1]}}
	h := []api.Vec{v[:3]}
	was := guarded(h)
	ask(t, h, v[:3], vector(1), vector(0, 0, 0))
	ask(t, h, v[1:], nil, api.Vec{{Mag: []uint32{1, 1}}, vector(-1)[0], vector(2)[0]})
	for _, c := range calls() {
		for _, w := range []api.Vec{v[:3], v[1:], v[:2]} {
			got := c.do(h, w, 3)
			checkApart(t, c.name, got)
			spoil(got)
		}
	}
	if !was.untouched(h) || !slices.Equal(mag, []uint32{2, 1, 0}) {
		t.Error("what was handed in is changed:", h)
	}
}
