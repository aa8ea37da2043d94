package lll

import (
	"math"
	"math/big"
	"math/rand"
	"slices"
	"testing"

	"quincunx/api"
	"quincunx/hnf"
	"quincunx/vec"
	"quincunx/whole"
)

const (
	top  = math.MaxUint32
	mark = 0xdeadbeef
)

// many is a number of n limbs.
func many(n int) api.Int {
	return api.Int{Mag: slices.Repeat([]uint32{top}, n)}
}

// vector is short for a vector of ints.
func vector(l ...int) api.Vec {
	return vec.Of(l)
}

// list is short for rows of ints.
func list(l ...[]int) []api.Vec {
	var out []api.Vec
	for _, row := range l {
		out = append(out, vec.Of(row))
	}
	return out
}

// lone is n noughts, but for x at place i.
func lone(n, i int, x api.Int) api.Vec {
	v := make(api.Vec, n)
	v[i] = x
	return v
}

// units are n unit rows.
func units(n int) []api.Vec {
	var out []api.Vec
	for i := range n {
		out = append(out, lone(n, i, whole.Of(1)))
	}
	return out
}

// noughts are 0 in all its forms.
func noughts() api.Vec {
	var all api.Vec
	for _, mag := range [][]uint32{nil, {}, {0}, {0, 0}, make([]uint32, 100)} {
		all = append(all, api.Int{Mag: mag}, api.Int{Neg: true, Mag: mag})
	}
	return all
}

// padded is v, each place with noughts behind its limbs, and 0 with a sign too.
func padded(v api.Vec) api.Vec {
	var out api.Vec
	for _, a := range v {
		out = append(out, api.Int{Neg: a.Neg || len(a.Mag) == 0, Mag: append(slices.Clone(a.Mag), 0, 0)})
	}
	return out
}

// plain is v in its one form, by another way than the program's.
func plain(v api.Vec) api.Vec {
	out := api.Vec{}
	for _, a := range v {
		out = append(out, number(value(a)))
	}
	return out
}

// each is every row turned by f.
func each(l []api.Vec, f func(api.Vec) api.Vec) []api.Vec {
	var out []api.Vec
	for _, v := range l {
		out = append(out, f(v))
	}
	return out
}

// alike holds two Ints against each other limb by limb: not only by their values.
func alike(a, b api.Int) bool {
	return a.Neg == b.Neg && slices.Equal(a.Mag, b.Mag)
}

// alikeVectors asks for as many places, limb by limb.
func alikeVectors(v, w api.Vec) bool {
	return slices.EqualFunc(v, w, alike)
}

// alikeRows asks for as many rows, each of as many places, limb by limb.
func alikeRows(a, b []api.Vec) bool {
	return slices.EqualFunc(a, b, alikeVectors)
}

func value(a api.Int) *big.Int {
	v := new(big.Int)
	for _, x := range slices.Backward(a.Mag) {
		v.Lsh(v, 32)
		v.Or(v, big.NewInt(int64(x)))
	}
	if a.Neg {
		v.Neg(v)
	}
	return v
}

// number is an Int in its one form, by another way than the program's.
func number(v *big.Int) api.Int {
	a := api.Int{Neg: v.Sign() < 0}
	low := big.NewInt(top)
	for v = new(big.Int).Abs(v); v.Sign() > 0; v.Rsh(v, 32) {
		a.Mag = append(a.Mag, uint32(new(big.Int).And(v, low).Uint64()))
	}
	return a
}

// formed is the form of rows' lattice.
func formed(t *testing.T, l []api.Vec, n int) []api.Vec {
	t.Helper()
	h, e := hnf.Hnf(l, n)
	if e != api.OK {
		t.Fatalf("Hnf(%v, %d): %v", l, n, e)
	}
	return h
}

// chosen are that many rows of n places from -span to span.
func chosen(chance *rand.Rand, many, n, span int) []api.Vec {
	var l []api.Vec
	for range many {
		v := make(api.Vec, n)
		for i := range v {
			v[i] = whole.Of(chance.Intn(2*span+1) - span)
		}
		l = append(l, v)
	}
	return l
}

// sample is rows and how many places they have, or are said to have.
type sample struct {
	l []api.Vec
	n int
}

// dot is the sum of the places' products, by another way than the program's.
func dot(a, b api.Vec) *big.Int {
	sum := new(big.Int)
	for i := range min(len(a), len(b)) {
		sum.Add(sum, new(big.Int).Mul(value(a[i]), value(b[i])))
	}
	return sum
}

// determinant is that of the Dots of a's rows with as many of b's.
func determinant(a, b []api.Vec) *big.Int {
	var m [][]*big.Rat
	for _, row := range a {
		var line []*big.Rat
		for _, other := range b {
			line = append(line, new(big.Rat).SetInt(dot(row, other)))
		}
		m = append(m, line)
	}
	all := big.NewRat(1, 1)
	for k := range m {
		at := slices.IndexFunc(m[k:], func(line []*big.Rat) bool { return line[k].Sign() != 0 })
		if at < 0 {
			return new(big.Int)
		}
		if at > 0 {
			m[k], m[k+at] = m[k+at], m[k]
			all.Neg(all)
		}
		all.Mul(all, m[k][k])
		for _, line := range m[k+1:] {
			times := new(big.Rat).Quo(line[k], m[k][k])
			for j := range line {
				line[j] = new(big.Rat).Sub(line[j], new(big.Rat).Mul(times, m[k][j]))
			}
		}
	}
	return all.Num()
}

// across are the parts of rows that stand across the rows ahead, and shares of them in each row; false, if rows depend on one another. It goes by the words: with quotients, not whole numbers.
func across(l []api.Vec) (sizes []*big.Rat, shares [][]*big.Rat, ok bool) {
	var parts [][]*big.Rat
	times := func(a, b []*big.Rat) *big.Rat {
		sum := new(big.Rat)
		for i := range min(len(a), len(b)) {
			sum.Add(sum, new(big.Rat).Mul(a[i], b[i]))
		}
		return sum
	}
	n := 0
	for _, row := range l {
		n = max(n, len(row))
	}
	for _, row := range l {
		v := make([]*big.Rat, n)
		for i := range v {
			v[i] = new(big.Rat)
			if i < len(row) {
				v[i].SetInt(value(row[i]))
			}
		}
		part := slices.Clone(v)
		var line []*big.Rat
		for j, other := range parts {
			share := new(big.Rat).Quo(times(v, other), sizes[j])
			line = append(line, share)
			for i := range part {
				part[i] = new(big.Rat).Sub(part[i], new(big.Rat).Mul(share, other[i]))
			}
		}
		size := times(part, part)
		if size.Sign() == 0 {
			return nil, nil, false
		}
		sizes, shares, parts = append(sizes, size), append(shares, line), append(parts, part)
	}
	return sizes, shares, true
}

// reduced tells by quotients whether rows that have Form are reduced.
func reduced(l []api.Vec) bool {
	sizes, shares, ok := across(l)
	if !ok {
		return false
	}
	half := big.NewRat(1, 2)
	for i, line := range shares {
		for _, x := range line {
			if new(big.Rat).Abs(x).Cmp(half) > 0 {
				return false
			}
		}
		if i == 0 {
			continue
		}
		// At least 3 / 4, less the square of the share, of the part of the row ahead.
		least := new(big.Rat).Sub(big.NewRat(3, 4), new(big.Rat).Mul(line[i-1], line[i-1]))
		if sizes[i].Cmp(least.Mul(least, sizes[i-1])) < 0 {
			return false
		}
	}
	return true
}

// samples are rows with Form: none, noughts, one, as many as places, fewer and more, such as depend on one another, of many limbs, below 0, and with noughts behind their limbs.
func samples() []sample {
	odd, huge := many(5), many(12)
	all := []sample{
		{nil, 1}, {[]api.Vec{}, 3}, {nil, 64}, {list([]int{0}), 1}, {list([]int{0, 0}, []int{0, 0}), 2}, {list([]int{-6}), 1}, {list([]int{4}, []int{-6}), 1}, {list([]int{5}, []int{5}, []int{0}, []int{7}), 1}, {list([]int{3, -4}), 2}, {[]api.Vec{noughts()}, 10}, {[]api.Vec{make(api.Vec, 64)}, 64},
		{list([]int{1, 0, 9}, []int{0, 1, 8}), 3}, {list([]int{1, -1, 1}, []int{-2, 3, 6}), 3}, {list([]int{1, 2}, []int{2, 4}), 2}, {list([]int{1, 2}, []int{-1, -2}), 2}, {list([]int{0, 0}, []int{0, 7}), 2}, {list([]int{5, 5}, []int{5, 5}, []int{3, 0}), 2}, {list([]int{1, 1, 0}, []int{1, 0, 1}, []int{0, 1, 1}), 3}, {list([]int{2, 0}, []int{1, 2}), 2}, {list([]int{5, 0}, []int{0, 1}), 2}, {list([]int{1, 2, 3}, []int{4, 5, 6}, []int{7, 8, 9}), 3}, {list([]int{math.MinInt, math.MaxInt}, []int{math.MaxInt, math.MinInt}), 2},
		{[]api.Vec{{odd, whole.Neg(huge)}}, 2}, {[]api.Vec{{whole.Of(1), huge}, {{}, whole.Neg(whole.Mul(odd, odd))}}, 2}, {[]api.Vec{{huge, odd, whole.Neg(huge)}, {{}, huge, odd}, {odd, {}, odd}}, 3}, {[]api.Vec{{odd, {}}, {{}, huge}, {odd, huge}}, 2}, {[]api.Vec{lone(64, 63, whole.Neg(odd))}, 64}, {[]api.Vec{lone(64, 0, odd), lone(64, 63, huge), lone(64, 0, huge)}, 64}, {units(64), 64},
	}
	chance := rand.New(rand.NewSource(13))
	for _, size := range [][2]int{{1, 1}, {1, 4}, {2, 2}, {2, 3}, {3, 3}, {3, 5}, {4, 4}, {4, 7}, {6, 6}, {3, 12}, {8, 8}, {5, 3}, {9, 4}} {
		for _, span := range []int{1, 4, 100, 1 << 40} {
			l := chosen(chance, size[0], size[1], span)
			all = append(all, sample{l, size[1]})
			if span < 101 {
				// A row that is a sum of others, in their midst.
				all = append(all, sample{slices.Insert(l, size[0]/2, vec.Sub(l[0], vec.Times(l[size[0]-1], whole.Of(2)))), size[1]})
			}
		}
	}
	for _, s := range slices.Clone(all) {
		all = append(all, sample{each(s.l, padded), s.n})
	}
	return all
}

// wrong are rows that have not Form, by n.
func wrong() []sample {
	return []sample{
		{nil, 0}, {nil, -1}, {nil, 65}, {nil, math.MinInt}, {nil, math.MaxInt}, {[]api.Vec{}, 0}, {[]api.Vec{nil}, 0}, {[]api.Vec{nil}, 1}, {[]api.Vec{{}, {}}, -1}, {[]api.Vec{{}, {}}, 2},
		{list([]int{1, 2}), 1}, {list([]int{1, 2}), 3}, {list([]int{1, 2}), 0}, {list([]int{1, 2}), -2}, {list([]int{1, 2}), 65}, {list([]int{2, 0}, []int{0, 3, 0}), 2}, {list([]int{2, 0}, []int{3}), 2}, {list([]int{2, 0}, nil), 2}, {list([]int{1}, []int{0, 3}), 2}, {list([]int{0}, []int{0, 0}), 2},
		{[]api.Vec{lone(65, 0, whole.Of(1))}, 65}, {[]api.Vec{lone(65, 0, whole.Of(1))}, 64}, {[]api.Vec{lone(64, 0, whole.Of(1))}, 63}, {[]api.Vec{lone(64, 0, whole.Of(1))}, 65}, {units(65), 65}, {units(3), 2}, {units(2), 3},
	}
}

// P13.1: no rows, one, as many as places and fewer, g below 0, 0, and greater than d.
func TestGram(t *testing.T) {
	for _, x := range []struct {
		l [][]int
		d []int
		g [][]int
	}{
		{nil, []int{1}, nil}, {[][]int{}, []int{1}, nil}, {[][]int{{7}}, []int{1, 49}, [][]int{{}}}, {[][]int{{-3, 4}}, []int{1, 25}, [][]int{{}}}, {[][]int{{1, 2, 3, 4}}, []int{1, 30}, [][]int{{}}},
		{[][]int{{1, 0, 9}, {0, 1, 8}}, []int{1, 82, 146}, [][]int{{}, {72}}}, {[][]int{{1, 0, 9}, {0, -1, -8}}, []int{1, 82, 146}, [][]int{{}, {-72}}}, {[][]int{{0, 1, 8}, {1, 0, 9}}, []int{1, 65, 146}, [][]int{{}, {72}}}, {[][]int{{1, -1, 1}, {-2, 3, 6}}, []int{1, 3, 146}, [][]int{{}, {1}}},
		{[][]int{{1, 0}, {0, 1}}, []int{1, 1, 1}, [][]int{{}, {0}}}, {[][]int{{1, 0}, {5, 1}}, []int{1, 1, 1}, [][]int{{}, {5}}}, {[][]int{{1, 0}, {-5, -1}}, []int{1, 1, 1}, [][]int{{}, {-5}}}, {[][]int{{2, 0}, {1, 3}}, []int{1, 4, 36}, [][]int{{}, {2}}}, {[][]int{{3, 4}, {4, 3}}, []int{1, 25, 49}, [][]int{{}, {24}}},
		{[][]int{{1, 1, 0}, {1, 0, 1}, {0, 1, 1}}, []int{1, 2, 3, 4}, [][]int{{}, {1}, {1, 1}}}, {[][]int{{1, 0, 0}, {2, 1, 0}, {3, 4, 1}}, []int{1, 1, 1, 1}, [][]int{{}, {2}, {3, 4}}}, {[][]int{{2, 0, 0}, {0, 3, 0}, {-1, -5, 7}}, []int{1, 4, 36, 1764}, [][]int{{}, {0}, {-2, -60}}}, {[][]int{{1, 1, 1, 1}, {1, 2, 3, 4}, {0, 1, 0, -1}}, []int{1, 4, 20, 24}, [][]int{{}, {10}, {0, -8}}},
		// Places behind a row's end count as 0.
		{[][]int{{1}, {2, 3}}, []int{1, 1, 9}, [][]int{{}, {2}}}, {[][]int{{0, 2, 0}, {1}}, []int{1, 4, 4}, [][]int{{}, {0}}},
	} {
		for _, l := range [][]api.Vec{list(x.l...), each(list(x.l...), padded)} {
			d, g := Gram(l)
			if !alikeVectors(d, vec.Of(x.d)) || !alikeRows(g, list(x.g...)) {
				t.Errorf("Gram(%v) is %v, %v, want %v, %v", l, d, g, x.d, x.g)
			}
		}
	}
}

// checkGram asks for determinants that are worked out by another way, and of rows that depend on one another for as many numbers, some d of them 0.
func checkGram(t *testing.T, l []api.Vec) {
	t.Helper()
	d, g := Gram(l)
	if len(d) != len(l)+1 || len(g) != len(l) {
		t.Fatalf("Gram(%v) is %v, %v", l, d, g)
	}
	if determinant(l, l).Sign() == 0 {
		if !slices.ContainsFunc(d, func(x api.Int) bool { return value(x).Sign() == 0 }) {
			t.Errorf("Gram(%v) is %v, none 0", l, d)
		}
		return
	}
	for i := range d {
		// All the determinants of many rows would take long, and across tells these too.
		if i > 8 && i < len(l) {
			continue
		}
		if want := number(determinant(l[:i], l[:i])); !alike(d[i], want) {
			t.Errorf("Gram(%v): d(%d) is %v, want %v", l, i, d[i], want)
		}
	}
	for i, line := range g {
		if len(line) != i {
			t.Fatalf("Gram(%v): g is %v", l, g)
		}
		for j, x := range line[:min(i, 8)] {
			// The j-th row gives way to the i-th one.
			mixed := append(slices.Clone(l[:j]), l[i])
			if want := number(determinant(mixed, l[:j+1])); !alike(x, want) {
				t.Errorf("Gram(%v): g(%d, %d) is %v, want %v", l, i+1, j+1, x, want)
			}
		}
	}
}

// P13.1: of all sorts of rows, determinants by another way, and g by quotients.
func TestGramMany(t *testing.T) {
	long := slices.Repeat(vector(1, -2, 3), 40)
	for _, s := range append(samples(), sample{[]api.Vec{long, long[1:], long[:70]}, 120}) {
		checkGram(t, s.l)
		sizes, shares, ok := across(s.l)
		if !ok {
			continue
		}
		d, g := Gram(s.l)
		for i, size := range sizes {
			if new(big.Rat).SetFrac(value(d[i+1]), value(d[i])).Cmp(size) != 0 {
				t.Errorf("Gram(%v): d(%d) goes %v times into the next, want %v", s.l, i, d[i+1], size)
			}
			for j, share := range shares[i] {
				if new(big.Rat).SetFrac(value(g[i][j]), value(d[j+1])).Cmp(share) != 0 {
					t.Errorf("Gram(%v): g(%d, %d) is %v of %v, want %v", s.l, i+1, j+1, g[i][j], d[j+1], share)
				}
			}
		}
	}
}

// P13.1: rows that depend on one another, without places too, and many of them.
func TestGramDepends(t *testing.T) {
	for _, l := range [][]api.Vec{{nil}, {{}, {}}, {nil, vector(1)}, {vector(1), nil}, list([]int{0, 0}), {noughts(), vector(1)}, list([]int{1, 2}, []int{2, 4}), list([]int{1, 2}, []int{2, 4}, []int{0, 1}), list([]int{0, 0}, []int{1, 2}, []int{3, 4}), list([]int{1}, []int{2}, []int{3}), each(list([]int{1, 2}, []int{-1, -2}, []int{0, 5}), padded), slices.Repeat(list([]int{1, 2, 3}), 300)} {
		d, g := Gram(l)
		if len(d) != len(l)+1 || len(g) != len(l) || !slices.ContainsFunc(d, func(x api.Int) bool { return value(x).Sign() == 0 }) {
			t.Errorf("Gram(%v) is %v, %v", l, d, g)
		}
	}
}

// P13.1: no rows, one, as many as places, at either side of each bound, in the first rows and behind them.
func TestIs(t *testing.T) {
	for _, x := range []struct {
		l    [][]int
		n    int
		want bool
	}{
		{nil, 1, true}, {nil, 2, true}, {nil, 64, true}, {[][]int{}, 3, true}, {[][]int{{7}}, 1, true}, {[][]int{{-7}}, 1, true}, {[][]int{{0}}, 1, false}, {[][]int{{0, 0, 0}}, 3, false}, {[][]int{{0, 0, -1}}, 3, true}, {[][]int{{1}, {2}}, 1, false}, {[][]int{{1}, {0}}, 1, false}, {[][]int{{0, 0}, {0, 1}}, 2, false},
		{[][]int{{1, 2}, {2, 4}}, 2, false}, {[][]int{{1, 2}, {1, 2}}, 2, false}, {[][]int{{1, 0}, {0, 1}, {0, 0}}, 2, false}, {[][]int{{1, 0}, {0, 1}, {1, 1}}, 2, false}, {[][]int{{1, 1, 0}, {1, 0, 1}, {0, 1, -1}}, 3, false},
		// 2 Abs(g) against d.
		{[][]int{{2, 0}, {1, 2}}, 2, true}, {[][]int{{2, 0}, {-1, 2}}, 2, true}, {[][]int{{2, 0}, {2, 2}}, 2, false}, {[][]int{{1, 1, 1, 0}, {1, 1, 0, 5}}, 4, false}, {[][]int{{1, 1, 1, 0}, {-1, 0, -1, 5}}, 4, false}, {[][]int{{1, 1, 1, 0}, {1, 0, 0, 5}}, 4, true}, {[][]int{{1, 1, 1, 0}, {0, -1, 0, 5}}, 4, true}, {[][]int{{1, 1, 0}, {1, 0, 9}}, 3, true}, {[][]int{{1, 1, 0}, {-1, 0, 9}}, 3, true},
		{[][]int{{2, 0, 0}, {0, 2, 0}, {1, 1, 2}}, 3, true}, {[][]int{{2, 0, 0}, {0, 2, 0}, {2, 1, 2}}, 3, false}, {[][]int{{2, 0, 0}, {0, 2, 0}, {1, 2, 2}}, 3, false}, {[][]int{{2, 0, 0}, {0, 2, 0}, {-2, 0, 2}}, 3, false}, {[][]int{{2, 0, 0}, {0, 2, 0}, {-1, -1, -2}}, 3, true}, {[][]int{{2, 0, 0}, {1, 2, 0}, {0, 1, 2}}, 3, true}, {[][]int{{2, 0, 0}, {1, 2, 0}, {0, 2, 2}}, 3, false},
		// The row against the one ahead of it.
		{[][]int{{0, 1}, {5, 0}}, 2, true}, {[][]int{{5, 0}, {0, 1}}, 2, false}, {[][]int{{2, 0, 0, 0}, {0, 1, 1, 1}}, 4, true}, {[][]int{{2, 0, 0, 0}, {0, 1, 1, 0}}, 4, false}, {[][]int{{2, 0, 0, 0}, {1, 1, 1, 0}}, 4, true}, {[][]int{{2, 0, 0, 0}, {-1, 1, 0, 0}}, 4, false}, {[][]int{{4, 0}, {2, 3}}, 2, true}, {[][]int{{4, 0}, {1, 3}}, 2, false}, {[][]int{{4, 0}, {0, 3}}, 2, false}, {[][]int{{4, 0}, {-2, 2}}, 2, false}, {[][]int{{8, 0}, {0, 7}}, 2, true}, {[][]int{{7, 0}, {0, 6}}, 2, false}, {[][]int{{7, 0, 0}, {0, 6, 1}}, 3, true},
		{[][]int{{1, 0, 0, 0, 0}, {0, 2, 0, 0, 0}, {0, 0, 1, 1, 1}}, 5, true}, {[][]int{{1, 0, 0, 0, 0}, {0, 2, 0, 0, 0}, {0, 0, 1, 1, 0}}, 5, false}, {[][]int{{2, 0, 0, 0, 0}, {1, 2, 0, 0, 0}, {0, 1, 1, 1, 0}}, 5, true}, {[][]int{{2, 0, 0, 0, 0}, {1, 2, 0, 0, 0}, {1, 1, 1, 0, 0}}, 5, false}, {[][]int{{2, 0, 0, 0, 0}, {1, 2, 0, 0, 0}, {1, 1, 1, 1, 0}}, 5, true}, {[][]int{{3, 0, 0, 0}, {0, 4, 0, 0}, {0, 0, 5, 0}, {0, 0, 0, 4}}, 4, false}, {[][]int{{3, 0, 0, 0}, {0, 4, 0, 0}, {0, 0, 5, 0}, {0, 0, 0, 5}}, 4, true},
		{[][]int{{1, 0, 9}, {0, 1, 8}}, 3, false}, {[][]int{{1, -1, 1}, {-2, 3, 6}}, 3, true}, {[][]int{{-2, 3, 6}, {1, -1, 1}}, 3, false},
	} {
		for _, l := range [][]api.Vec{list(x.l...), each(list(x.l...), padded)} {
			if Is(l, x.n) != x.want {
				t.Errorf("Is(%v, %d) is %v", l, x.n, !x.want)
			}
			if reduced(l) != x.want {
				t.Errorf("the test's own way differs at %v", l)
			}
		}
	}
}

// P13.1: at either side of each bound with many limbs, and 64 places.
func TestIsGreat(t *testing.T) {
	a, one, two := many(7), whole.Of(1), whole.Of(2)
	even := whole.Mul(a, two)
	// Of (even, 1) d is even squared and 1, and g of the second one, doubled, is one more.
	half := api.Vec{a, one, whole.Mul(even, two)}
	// Of (a, 1), a being odd, d is even, and g its half.
	low, high := halved(whole.Sub(a, one)), halved(whole.Add(a, one))
	for _, x := range []struct {
		l    []api.Vec
		want bool
	}{
		{[]api.Vec{{even, one, {}}, half}, false}, {[]api.Vec{{even, one, {}}, vec.Neg(half)}, false}, {[]api.Vec{{even, one, {}}, vec.Sub(half, vector(0, 1))}, true}, {[]api.Vec{{a, one, {}}, {low, high, a}}, true}, {[]api.Vec{{a, one, {}}, {whole.Neg(low), whole.Neg(high), a}}, true}, {[]api.Vec{{a, one, {}}, {low, whole.Add(high, one), a}}, false},
		{[]api.Vec{{even, {}, {}, {}}, {{}, a, a, a}}, true}, {[]api.Vec{{even, {}, {}, {}}, {{}, a, a, whole.Sub(a, one)}}, false}, {[]api.Vec{{even, {}, {}, {}}, {whole.Neg(a), a, a, {}}}, true}, {[]api.Vec{{even, {}, {}, {}}, {whole.Neg(a), a, whole.Sub(a, one), {}}}, false}, {units(64), true}, {slices.Repeat(units(64), 2), false}, {append(units(64)[:63], lone(64, 62, a)), false}, {append(units(64)[:63], lone(64, 63, a)), true}, {[]api.Vec{lone(64, 63, whole.Neg(a))}, true},
	} {
		for _, l := range [][]api.Vec{x.l, each(x.l, padded)} {
			if Is(l, len(l[0])) != x.want {
				t.Errorf("Is(%v) is %v", l, !x.want)
			}
		}
	}
}

// halved is half of an even number.
func halved(a api.Int) api.Int {
	return number(new(big.Int).Rsh(value(a), 1))
}

// P13.1: of all sorts of rows, held against quotients.
func TestIsMany(t *testing.T) {
	for _, s := range samples() {
		if Is(s.l, s.n) != reduced(s.l) {
			t.Errorf("Is(%v, %d) is %v", s.l, s.n, !reduced(s.l))
		}
	}
}

// P13.1, P13.2: rows that have not Form.
func TestWrong(t *testing.T) {
	for _, s := range wrong() {
		if Is(s.l, s.n) {
			t.Errorf("Is(%v, %d) is true", s.l, s.n)
		}
		if r, e := Reduce(s.l, s.n); r != nil || e != api.ErrArg {
			t.Errorf("Reduce(%v, %d) is %v, %v", s.l, s.n, r, e)
		}
	}
}

// checkReduce asks for reduced rows of the same lattice, in their one form.
func checkReduce(t *testing.T, l []api.Vec, n int) []api.Vec {
	t.Helper()
	r, e := Reduce(l, n)
	if e != api.OK || !Is(r, n) || !reduced(r) || !alikeRows(r, each(r, plain)) {
		t.Fatalf("Reduce(%v, %d) is %v, %v", l, n, r, e)
	}
	if h := formed(t, l, n); !alikeRows(formed(t, r, n), h) || len(r) != len(h) {
		t.Errorf("Reduce(%v, %d) is %v, of another lattice", l, n, r)
	}
	return r
}

// checkShort holds the first row against small sums of the rows.
func checkShort(t *testing.T, r []api.Vec) {
	t.Helper()
	if len(r) == 0 {
		return
	}
	first := dot(r[0], r[0])
	sums := []api.Vec{make(api.Vec, len(r[0]))}
	for _, row := range r[:min(len(r), 4)] {
		var next []api.Vec
		for _, v := range sums {
			for times := -2; times <= 2; times++ {
				next = append(next, vec.Add(v, vec.Times(row, whole.Of(times))))
			}
		}
		sums = next
	}
	for _, v := range append(sums, r...) {
		if size := dot(v, v); size.Sign() > 0 && first.Cmp(new(big.Int).Lsh(size, uint(len(r)-1))) > 0 {
			t.Errorf("the first row of %v is too long beside %v", r, v)
		}
	}
}

// P13.2, P13.3: of all sorts of rows; what is reduced stays in its lattice when it is reduced again.
func TestReduceMany(t *testing.T) {
	for _, s := range samples() {
		r := checkReduce(t, s.l, s.n)
		checkShort(t, r)
		checkShort(t, checkReduce(t, r, s.n))
		backwards := slices.Clone(s.l)
		slices.Reverse(backwards)
		checkReduce(t, backwards, s.n)
	}
}

// P13.2, P13.3: the document's example, no rows, noughts alone, one row; of how many rows, and how long the shortest vector is.
func TestReduce(t *testing.T) {
	for _, x := range []struct {
		l           [][]int
		n           int
		many, least int
	}{
		{nil, 1, 0, 0}, {nil, 64, 0, 0}, {[][]int{{0}}, 1, 0, 0}, {[][]int{{0, 0}, {0, 0}, {0, 0}}, 2, 0, 0}, {[][]int{{3, -4}}, 2, 1, 25}, {[][]int{{0, 0}, {3, -4}}, 2, 1, 25}, {[][]int{{4}, {-6}}, 1, 1, 4}, {[][]int{{5, 0}, {0, 1}}, 2, 2, 1}, {[][]int{{1, 0, 9}, {0, 1, 8}}, 3, 2, 3}, {[][]int{{1, 2}, {2, 4}, {-3, -6}}, 2, 1, 5}, {[][]int{{1, 2}, {3, 4}, {5, 6}}, 2, 2, 1}, {[][]int{{1, 1000}, {0, 1001}}, 2, 2, 2}, {[][]int{{6, 0}, {10, 0}, {15, 0}}, 2, 1, 1}, {[][]int{{1, 0, 1345}, {0, 1, 35}, {0, 0, 1}}, 3, 3, 1},
	} {
		r := checkReduce(t, list(x.l...), x.n)
		if len(r) != x.many || len(r) > 0 && dot(r[0], r[0]).Cmp(big.NewInt(int64(x.least<<(len(r)-1)))) > 0 {
			t.Errorf("Reduce(%v, %d) is %v", x.l, x.n, r)
		}
	}
}

// P13.2, P13.3: all pairs of small rows, and the first one against all vectors about nought.
func TestAllSmall(t *testing.T) {
	for a := -3; a <= 3; a++ {
		for b := -3; b <= 3; b++ {
			for c := -3; c <= 3; c++ {
				for d := -3; d <= 3; d++ {
					l := list([]int{a, b}, []int{c, d})
					if Is(l, 2) != reduced(l) {
						t.Errorf("Is(%v, 2) is %v", l, !reduced(l))
					}
					checkFirst(t, checkReduce(t, l, 2), [2]int{a, b}, [2]int{c, d})
				}
			}
		}
	}
}

// checkFirst holds the first of the reduced rows against small sums of the given ones.
func checkFirst(t *testing.T, r []api.Vec, v, w [2]int) {
	t.Helper()
	if len(r) == 0 {
		return
	}
	first := int(dot(r[0], r[0]).Int64())
	for i := -7; i <= 7; i++ {
		for j := -7; j <= 7; j++ {
			x, y := i*v[0]+j*w[0], i*v[1]+j*w[1]
			if size := x*x + y*y; size > 0 && first > size<<(len(r)-1) {
				t.Errorf("the first row of %v is too long beside (%d, %d)", r, x, y)
			}
		}
	}
}

// P13.2: 64 places, few rows and many, and a row of many limbs that hides short ones.
func TestReduceGreat(t *testing.T) {
	chance := rand.New(rand.NewSource(130))
	for _, size := range [][3]int{{1, 64, 1 << 30}, {8, 64, 100}, {64, 64, 1}, {66, 64, 1}, {20, 20, 9}} {
		l := chosen(chance, size[0], size[1], size[2])
		r, e := Reduce(l, size[1])
		if e != api.OK || !Is(r, size[1]) || !alikeRows(formed(t, r, size[1]), formed(t, l, size[1])) {
			t.Errorf("Reduce of %v rows of %v places is %v, %v", size[0], size[1], r, e)
		}
	}
	huge := many(6)
	var hidden []api.Vec
	for i, unit := range units(6) {
		hidden = append(hidden, vec.Times(unit, whole.Of(i+1)))
	}
	for range 30 {
		i, j := chance.Intn(6), chance.Intn(6)
		if i != j {
			hidden[i] = vec.Sub(hidden[i], vec.Times(hidden[j], whole.Sub(huge, whole.Of(chance.Intn(1000)))))
		}
	}
	if r := checkReduce(t, hidden, 6); dot(r[0], r[0]).Cmp(big.NewInt(32)) > 0 {
		t.Errorf("the first row is %v", r[0])
	}
}

// call is one call by which rows may be changed, kept or told.
type call struct {
	name string
	do   func(l []api.Vec, n int) []api.Vec
}

// calls tells small answers as rows too.
func calls() []call {
	truth := map[bool]int{true: 1}
	return []call{
		{"Gram", func(l []api.Vec, n int) []api.Vec {
			d, g := Gram(l)
			return append(g, d)
		}},
		{"Is", func(l []api.Vec, n int) []api.Vec { return list([]int{truth[Is(l, n)]}) }},
		{"Reduce", func(l []api.Vec, n int) []api.Vec {
			r, e := Reduce(l, n)
			return append(r, vector(int(e)))
		}},
	}
}

// guard is rows with marks behind them, behind each one's places and behind each place's limbs; memory is all of the rows, places and limbs.
type guard struct {
	l, memory []api.Vec
	places    []api.Vec
	limbs     [][]uint32
}

func guarded(l []api.Vec) guard {
	var g guard
	for _, v := range l {
		var places api.Vec
		for _, a := range v {
			limbs := append(slices.Clone(a.Mag), mark, mark, mark)
			g.limbs = append(g.limbs, limbs)
			places = append(places, api.Int{Neg: a.Neg, Mag: limbs[:len(a.Mag)]})
		}
		places = append(places, whole.Of(mark), whole.Of(-1))
		g.places = append(g.places, places)
		g.memory = append(g.memory, places[:len(v)])
	}
	g.memory = append(g.memory, vector(mark), vector(-1, -2))
	g.l = g.memory[:len(l)]
	return g
}

// untouched tells whether all of the memory is as it is made of l.
func (g guard) untouched(l []api.Vec) bool {
	fresh := guarded(l)
	return alikeRows(g.memory, fresh.memory) && alikeRows(g.places, fresh.places) && slices.EqualFunc(g.limbs, fresh.limbs, slices.Equal)
}

// copied is l in memory of its own.
func copied(l []api.Vec) []api.Vec {
	return each(l, func(v api.Vec) api.Vec {
		var out api.Vec
		for _, a := range v {
			out = append(out, api.Int{Neg: a.Neg, Mag: slices.Clip(slices.Clone(a.Mag))})
		}
		return out
	})
}

// scribble spoils an Int's limbs, and what lies behind them.
func scribble(a api.Int) {
	for i := range a.Mag[:cap(a.Mag)] {
		a.Mag[:cap(a.Mag)][i] = mark + 1
	}
}

// spoilVector scribbles on a vector's places, and on what lies behind.
func spoilVector(v api.Vec) {
	for i, a := range v[:cap(v)] {
		scribble(a)
		v[:cap(v)][i] = whole.Of(mark)
	}
}

// spoil scribbles on rows, and on what lies behind.
func spoil(l []api.Vec) {
	for i, v := range l[:cap(l)] {
		spoilVector(v)
		l[:cap(l)][i] = vector(mark)
	}
}

// P13.1, P13.2 with R2: what is handed in is neither changed nor kept, what lies behind it is not read.
func TestHandedInStays(t *testing.T) {
	for _, s := range append(samples(), wrong()...) {
		for _, c := range calls() {
			checkStays(t, c, s)
		}
	}
}

func checkStays(t *testing.T, c call, s sample) {
	t.Helper()
	in := guarded(s.l)
	want := copied(c.do(copied(s.l), s.n))
	got := c.do(in.l, s.n)
	spoil(c.do(in.l, s.n))
	if !alikeRows(got, want) {
		t.Errorf("%s of %v hangs on what lies behind, or two calls' answers share memory", c.name, s)
	}
	checkApart(t, c.name, got)
	spoil(got)
	if !in.untouched(s.l) {
		t.Errorf("%s of %v: what is handed in is changed or shared", c.name, s)
	}
}

// checkApart spoils one number, one row behind the other: what is not spoilt yet must stay.
func checkApart(t *testing.T, name string, got []api.Vec) {
	t.Helper()
	want := copied(got)
	for i, v := range got {
		for j := range v {
			scribble(v[j])
			if !alikeVectors(v[j+1:], want[i][j+1:]) {
				t.Errorf("%s: row %d's place %d shares memory with one behind it", name, i, j)
			}
		}
		spoilVector(v)
		if !alikeRows(got[i+1:], want[i+1:]) {
			t.Errorf("%s: row %d shares memory with one behind it", name, i)
		}
	}
}

// P13.1, P13.2 with R2: rows that share places and limbs.
func TestSharedMemory(t *testing.T) {
	mag := []uint32{2, 1, 0}
	v := api.Vec{{Mag: mag}, {Neg: true, Mag: mag[1:]}, {Neg: true, Mag: mag[2:]}, {Mag: mag[:1]}}
	l := []api.Vec{v[:3], v[1:], v[:3]}
	was := guarded(l)
	for _, c := range calls() {
		want := copied(c.do(copied(l), 3))
		got := c.do(l, 3)
		if !alikeRows(got, want) {
			t.Errorf("%s is %v, want %v", c.name, got, want)
		}
		checkApart(t, c.name, got)
		spoil(got)
	}
	if !was.untouched(l) || !slices.Equal(mag, []uint32{2, 1, 0}) {
		t.Error("what was handed in is changed:", l)
	}
}
