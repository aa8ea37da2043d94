package kernel

import (
	"math"
	"math/big"
	"math/rand"
	"slices"
	"testing"

	"quincunx/api"
	"quincunx/hnf"
	"quincunx/rows"
	"quincunx/vec"
	"quincunx/whole"
)

const (
	top  = math.MaxUint32
	mark = 0xdeadbeef
)

// many is a number of n limbs.
func many(n int) api.Int {
	return api.Int{Mag: slices.Repeat([]uint32{top}, n)}
}

// vector is short for a vector of ints.
func vector(l ...int) api.Vec {
	return vec.Of(l)
}

// list is short for rows of ints.
func list(l ...[]int) []api.Vec {
	var out []api.Vec
	for _, row := range l {
		out = append(out, vec.Of(row))
	}
	return out
}

// lone is n noughts, but for x at place i.
func lone(n, i int, x api.Int) api.Vec {
	v := make(api.Vec, n)
	v[i] = x
	return v
}

// units are n unit rows.
func units(n int) []api.Vec {
	var out []api.Vec
	for i := range n {
		out = append(out, lone(n, i, whole.Of(1)))
	}
	return out
}

// noughts are 0 in all its forms.
func noughts() api.Vec {
	var all api.Vec
	for _, mag := range [][]uint32{nil, {}, {0}, {0, 0}, make([]uint32, 100)} {
		all = append(all, api.Int{Mag: mag}, api.Int{Neg: true, Mag: mag})
	}
	return all
}

// padded is v, each place with noughts behind its limbs, and 0 with a sign too.
func padded(v api.Vec) api.Vec {
	var out api.Vec
	for _, a := range v {
		out = append(out, api.Int{Neg: a.Neg || len(a.Mag) == 0, Mag: append(slices.Clone(a.Mag), 0, 0)})
	}
	return out
}

// scaled is v, each place times a number of many limbs.
func scaled(v api.Vec) api.Vec {
	return vec.Times(v, many(7))
}

// each is every row turned by f.
func each(l []api.Vec, f func(api.Vec) api.Vec) []api.Vec {
	var out []api.Vec
	for _, v := range l {
		out = append(out, f(v))
	}
	return out
}

// ways are those in which a row may be handed in, its Dots 0 with the same vectors.
func ways() []func(api.Vec) api.Vec {
	return []func(api.Vec) api.Vec{
		func(v api.Vec) api.Vec { return v },
		padded, scaled, vec.Neg,
		func(v api.Vec) api.Vec { return padded(scaled(vec.Neg(v))) },
	}
}

// alike holds two Ints against each other limb by limb: not only by their values.
func alike(a, b api.Int) bool {
	return a.Neg == b.Neg && slices.Equal(a.Mag, b.Mag)
}

func alikeVectors(v, w api.Vec) bool {
	return slices.EqualFunc(v, w, alike)
}

// alikeRows asks for as many rows, each of as many places, limb by limb.
func alikeRows(a, b []api.Vec) bool {
	return slices.EqualFunc(a, b, alikeVectors)
}

// expect asks Of and Across for all that is turned to nought, and Rank for the rest of n.
func expect(t *testing.T, a []api.Vec, n int, want []api.Vec) {
	t.Helper()
	if k, e := Of(a, n); e != api.OK || !alikeRows(k, want) {
		t.Errorf("Of(%v, %d) is %v, %v, want %v", a, n, k, e, want)
	}
	if k, e := Across(a, n); e != api.OK || !alikeRows(k, want) {
		t.Errorf("Across(%v, %d) is %v, %v, want %v", a, n, k, e, want)
	}
	if r := Rank(a, n); r != n-len(want) {
		t.Errorf("Rank(%v, %d) is %d, want %d", a, n, r, n-len(want))
	}
}

// of is what Of tells of rows that have Form.
func of(t *testing.T, a []api.Vec, n int) []api.Vec {
	t.Helper()
	k, e := Of(a, n)
	if e != api.OK {
		t.Fatalf("Of(%v, %d): %v", a, n, e)
	}
	return k
}

func value(a api.Int) *big.Int {
	v := new(big.Int)
	for _, x := range slices.Backward(a.Mag) {
		v.Lsh(v, 32)
		v.Or(v, big.NewInt(int64(x)))
	}
	if a.Neg {
		v.Neg(v)
	}
	return v
}

// number is an Int in its one form, by another way than the program's.
func number(v *big.Int) api.Int {
	a := api.Int{Neg: v.Sign() < 0}
	low := big.NewInt(top)
	for v = new(big.Int).Abs(v); v.Sign() > 0; v.Rsh(v, 32) {
		a.Mag = append(a.Mag, uint32(new(big.Int).And(v, low).Uint64()))
	}
	return a
}

func values(v api.Vec) []*big.Int {
	var row []*big.Int
	for _, a := range v {
		row = append(row, value(a))
	}
	return row
}

// dot is the sum of the products, by another way than the program's.
func dot(v, w api.Vec) *big.Int {
	sum := new(big.Int)
	for i, x := range values(v) {
		if i < len(w) {
			sum.Add(sum, x.Mul(x, value(w[i])))
		}
	}
	return sum
}

// takeAway takes from v times w.
func takeAway(v, w []*big.Int, times *big.Int) {
	for i := range v {
		v[i].Sub(v[i], new(big.Int).Mul(times, w[i]))
	}
}

// lowerColumn lets one of the rows from number done on have a number at j, above 0, and says whether there is one.
func lowerColumn(m [][]*big.Int, done, j int) bool {
	for {
		least, others := -1, 0
		for i := done; i < len(m); i++ {
			if m[i][j].Sign() == 0 {
				continue
			}
			others++
			if least < 0 || m[i][j].CmpAbs(m[least][j]) < 0 {
				least = i
			}
		}
		if others == 0 {
			return false
		}
		m[done], m[least] = m[least], m[done]
		if m[done][j].Sign() < 0 {
			takeAway(m[done], m[done], big.NewInt(2))
		}
		if others == 1 {
			return true
		}
		for i := done + 1; i < len(m); i++ {
			takeAway(m[i], m[done], new(big.Int).Quo(m[i][j], m[done][j]))
		}
	}
}

// byColumns is what a turns to nought by another way than the program's: a's columns with unit rows beside them, column by column, with no bound on places.
func byColumns(a []api.Vec, n int) []api.Vec {
	var m [][]*big.Int
	for i := range n {
		var row api.Vec
		for _, v := range a {
			row = append(row, v[i])
		}
		m = append(m, values(append(row, lone(n, i, whole.Of(1))...)))
	}
	done, from := 0, 0
	for j := range len(a) + n {
		if j == len(a) {
			from = done
		}
		if !lowerColumn(m, done, j) {
			continue
		}
		for i := range done {
			takeAway(m[i], m[done], new(big.Int).Div(m[i][j], m[done][j]))
		}
		done++
	}
	var out []api.Vec
	for _, row := range m[from:] {
		var v api.Vec
		for _, x := range row[len(a):] {
			v = append(v, number(x))
		}
		out = append(out, v)
	}
	return out
}

// rankByRatios is how many rows do not depend on others, by another way than the program's.
func rankByRatios(a []api.Vec, n int) int {
	var m [][]*big.Rat
	for _, v := range a {
		var row []*big.Rat
		for _, x := range values(v) {
			row = append(row, new(big.Rat).SetInt(x))
		}
		m = append(m, row)
	}
	rank := 0
	for j := range n {
		at := slices.IndexFunc(m[rank:], func(row []*big.Rat) bool { return row[j].Sign() != 0 })
		if at < 0 {
			continue
		}
		m[rank], m[rank+at] = m[rank+at], m[rank]
		for _, row := range m[rank+1:] {
			times := new(big.Rat).Quo(row[j], m[rank][j])
			for i := range row {
				row[i] = new(big.Rat).Sub(row[i], new(big.Rat).Mul(times, m[rank][i]))
			}
		}
		rank++
	}
	return rank
}

// sample is rows that have Form.
type sample struct {
	l []api.Vec
	n int
}

// handed are rows as they may be handed in: none, noughts, one, more than places and fewer, such as depend on one another, some of many limbs.
func handed() []sample {
	odd, huge := many(5), many(40)
	all := []sample{
		{nil, 1}, {[]api.Vec{}, 64}, {list([]int{0}), 1}, {list([]int{0, 0}, []int{0, 0}), 2}, {[]api.Vec{noughts(), noughts()}, 10}, {list([]int{5}), 1}, {list([]int{-5}), 1}, {list([]int{6}, []int{-10}, []int{15}), 1},
		{list([]int{0, -3, 1}), 3}, {list([]int{2, 4}), 2}, {list([]int{2, 4}, []int{3, 1}), 2}, {list([]int{1, 2, 3}, []int{4, 5, 6}, []int{7, 8, 9}), 3}, {list([]int{1, 2, 3}, []int{-1, -2, -3}), 3}, {list([]int{0, 0, 4}, []int{0, 6, 0}, []int{10, 0, 0}), 3},
		{list([]int{6, 1}, []int{10, 1}, []int{15, 1}, []int{0, 30}), 2}, {list([]int{3, 1, 4, 1}, []int{5, 9, 2, 6}, []int{5, 3, 5, 8}), 4}, {list([]int{math.MinInt, 1}, []int{math.MaxInt, -1}), 2}, {list([]int{math.MinInt, math.MaxInt, 0}), 3},
		{[]api.Vec{{odd, whole.Neg(huge)}, {whole.Neg(odd), huge}, {whole.Mul(odd, huge), whole.Neg(whole.Mul(huge, huge))}}, 2}, {[]api.Vec{{{}, whole.Neg(odd), huge}, {huge, {}, odd}}, 3},
		{[]api.Vec{lone(64, 63, whole.Neg(odd)), make(api.Vec, 64), lone(64, 0, whole.Of(3))}, 64}, {slices.Repeat(list([]int{4, -6}), 5), 2},
	}
	chance := rand.New(rand.NewSource(11))
	for _, size := range [][2]int{{1, 1}, {1, 4}, {2, 2}, {2, 3}, {3, 2}, {3, 3}, {4, 4}, {4, 7}, {7, 4}, {6, 6}, {12, 3}, {3, 12}} {
		for _, span := range []int{1, 3, 100} {
			l := chosen(chance, size[0], size[1], span)
			// Sums of rows with small numbers, so that they depend on one another.
			bound := rows.Product(chosen(chance, size[0], max(1, size[0]/2), 2), l)
			all = append(all, sample{l, size[1]}, sample{bound, size[1]})
		}
	}
	for _, s := range slices.Clone(all) {
		all = append(all, sample{each(s.l, padded), s.n}, sample{each(s.l, scaled), s.n})
	}
	return all
}

// chosen are that many rows of n places from -span to span.
func chosen(chance *rand.Rand, many, n, span int) []api.Vec {
	var l []api.Vec
	for range many {
		v := make(api.Vec, n)
		for i := range v {
			v[i] = whole.Of(chance.Intn(2*span+1) - span)
		}
		l = append(l, v)
	}
	return l
}

// wrong are rows that have not Form, by n.
func wrong() []sample {
	return []sample{
		{nil, 0}, {nil, -1}, {nil, 65}, {nil, math.MinInt}, {nil, math.MaxInt}, {[]api.Vec{}, 0}, {[]api.Vec{nil}, 0}, {[]api.Vec{nil}, 1}, {[]api.Vec{{}, {}}, -1},
		{list([]int{1, 2}), 1}, {list([]int{1, 2}), 3}, {list([]int{1, 2}), 0}, {list([]int{1, 2}), -1}, {list([]int{1, 2}), -2}, {list([]int{1, 2}), 65}, {list([]int{1, 0}), 1}, {list([]int{0, 0}), 3},
		{list([]int{1, 2}, []int{3}), 2}, {list([]int{1, 2}, []int{0, 3, 0}), 2}, {list([]int{1}, []int{0, 3}), 2}, {list([]int{1, 0}, nil), 2}, {list(nil, []int{0, 1}), 2},
		{[]api.Vec{make(api.Vec, 65)}, 65}, {[]api.Vec{lone(65, 0, whole.Of(1))}, 64}, {[]api.Vec{lone(64, 0, whole.Of(1))}, 63}, {units(65), 65},
	}
}

// P11.1: the document's example, no rows, noughts alone, one row, more rows than places, fewer, such as depend on one another, such as leave nothing but nought.
func TestOf(t *testing.T) {
	for _, c := range []struct {
		n       int
		a, want [][]int
	}{
		{3, [][]int{{1, 1, 1}}, [][]int{{1, 0, -1}, {0, 1, -1}}},
		{1, nil, [][]int{{1}}}, {2, nil, [][]int{{1, 0}, {0, 1}}}, {1, [][]int{{0}}, [][]int{{1}}}, {3, [][]int{{0, 0, 0}, {0, 0, 0}}, [][]int{{1, 0, 0}, {0, 1, 0}, {0, 0, 1}}},
		{1, [][]int{{7}}, nil}, {1, [][]int{{0}, {-3}}, nil}, {1, [][]int{{4}, {6}, {0}}, nil}, {2, [][]int{{1, 0}, {0, 1}}, nil}, {2, [][]int{{1, 2}, {3, 4}}, nil}, {2, [][]int{{1, 2}, {3, 4}, {5, 6}}, nil}, {3, [][]int{{2, 0, 0}, {0, 3, 0}, {0, 0, 5}}, nil},
		{2, [][]int{{1, 0}}, [][]int{{0, 1}}}, {2, [][]int{{0, 1}}, [][]int{{1, 0}}}, {2, [][]int{{1, 1}}, [][]int{{1, -1}}}, {2, [][]int{{1, -1}}, [][]int{{1, 1}}}, {2, [][]int{{3, 5}}, [][]int{{5, -3}}}, {2, [][]int{{-3, 5}}, [][]int{{5, 3}}}, {3, [][]int{{0, 4, 0}}, [][]int{{1, 0, 0}, {0, 0, 1}}},
		{3, [][]int{{1, 2, 1}}, [][]int{{1, 0, -1}, {0, 1, -2}}}, {3, [][]int{{1, 2, 3}}, [][]int{{1, 1, -1}, {0, 3, -2}}}, {3, [][]int{{6, 10, 15}}, [][]int{{5, 0, -2}, {0, 3, -2}}}, {3, [][]int{{0, 6, 10}}, [][]int{{1, 0, 0}, {0, 5, -3}}},
		{4, [][]int{{1, 1, 1, 1}, {0, 1, 2, 3}}, [][]int{{1, 0, -3, 2}, {0, 1, -2, 1}}}, {4, [][]int{{1, 1, 0, 0}, {0, 0, 1, 1}, {1, 0, 1, 0}, {0, 1, 0, 1}}, [][]int{{1, -1, -1, 1}}},
		{3, [][]int{{1, 2, 3}, {4, 5, 6}, {7, 8, 9}}, [][]int{{1, -2, 1}}}, {3, [][]int{{1, 1, 1}, {2, 2, 2}, {-1, -1, -1}}, [][]int{{1, 0, -1}, {0, 1, -1}}}, {3, [][]int{{1, 1, 1}, {0, 0, 0}, {1, 1, 1}}, [][]int{{1, 0, -1}, {0, 1, -1}}},
		{2, [][]int{{1, 0}, {0, 0}, {2, 0}}, [][]int{{0, 1}}}, {2, [][]int{{2, 3}, {4, 6}, {-2, -3}, {6, 9}}, [][]int{{3, -2}}},
	} {
		for _, w := range ways() {
			expect(t, each(list(c.a...), w), c.n, list(c.want...))
		}
	}
	expect(t, []api.Vec{noughts(), noughts()}, 10, units(10))
	// The least int has no counterpart above 0 among the ints.
	expect(t, list([]int{math.MinInt, 1}), 2, []api.Vec{{whole.Of(1), {Mag: []uint32{0, 1 << 31}}}})
	a, b := many(30), whole.Add(many(30), whole.Of(1))
	expect(t, []api.Vec{{a, b}}, 2, []api.Vec{{b, whole.Neg(a)}})
	expect(t, []api.Vec{{a, whole.Neg(b)}, {whole.Neg(a), b}}, 2, []api.Vec{{b, a}})
	expect(t, []api.Vec{{a, b}, {b, a}}, 2, nil)
}

// P11.1: no rows: the unit rows, at both ends of what n may be.
func TestOfNoRows(t *testing.T) {
	for n := 1; n <= 64; n++ {
		expect(t, nil, n, units(n))
		expect(t, []api.Vec{}, n, units(n))
	}
	expect(t, []api.Vec{make(api.Vec, 64)}, 64, units(64))
	expect(t, units(64), 64, nil)
	expect(t, []api.Vec{lone(64, 63, many(3))}, 64, each(units(63), func(v api.Vec) api.Vec { return append(v, api.Int{}) }))
}

// P11.1, P11.2: rows that have not Form.
func TestWrong(t *testing.T) {
	for _, c := range wrong() {
		if k, e := Of(c.l, c.n); e != api.ErrArg || k != nil {
			t.Errorf("Of(%v, %d) is %v, %v", c.l, c.n, k, e)
		}
		if k, e := Across(c.l, c.n); e != api.ErrArg || k != nil {
			t.Errorf("Across(%v, %d) is %v, %v", c.l, c.n, k, e)
		}
		if r := Rank(c.l, c.n); r != 0 {
			t.Errorf("Rank(%v, %d) is %d", c.l, c.n, r)
		}
	}
}

// P11.1, P11.3: held against another way, and against the words of P11.1; Rank and how many rows Of has are n together.
func TestOfMany(t *testing.T) {
	for _, c := range handed() {
		expect(t, c.l, c.n, byColumns(c.l, c.n))
		checkKernel(t, c.l, c.n)
	}
}

// checkKernel asks for rows in the form, as many as the rank leaves, each Dot 0, and not of multiples alone.
func checkKernel(t *testing.T, a []api.Vec, n int) {
	t.Helper()
	k := of(t, a, n)
	if !hnf.Is(k, n) {
		t.Errorf("Of(%v, %d) is not in the form: %v", a, n, k)
	}
	rank := rankByRatios(a, n)
	if len(k)+rank != n || Rank(a, n) != rank {
		t.Errorf("%v of %d places: rank %d, but %d are told, beside %v", a, n, rank, Rank(a, n), k)
	}
	for _, v := range k {
		for _, row := range a {
			if dot(row, v).Sign() != 0 {
				t.Errorf("Of(%v, %d): %v and %v have a Dot of %v", a, n, row, v, dot(row, v))
			}
		}
		if !Has(a, v) {
			t.Errorf("Has(%v, %v) is false", a, v)
		}
	}
	checkAll(t, a, n, k)
}

// checkAll asks that no whole vector is missed of which a multiple is a sum of k: the columns of such rows make up every vector.
func checkAll(t *testing.T, a []api.Vec, n int, k []api.Vec) {
	t.Helper()
	if len(k) == 0 {
		return
	}
	if h, e := hnf.Hnf(rows.Turn(k, n), len(k)); e != api.OK || !alikeRows(h, units(len(k))) {
		t.Errorf("Of(%v, %d) has multiples alone: %v", a, n, k)
	}
}

// P11.1: of all small rows; all vectors about nought are told just if each Dot is 0.
func TestAllSmall(t *testing.T) {
	const low, kinds = -1, 4
	code := make([]int, 6)
	for {
		l := list([]int{low + code[0], low + code[1], low + code[2]}, []int{low + code[3], low + code[4], low + code[5]})
		expect(t, l, 3, byColumns(l, 3))
		checkAbout(t, l, of(t, l, 3))
		i := 0
		for ; i < len(code) && code[i] == kinds-1; i++ {
			code[i] = 0
		}
		if i == len(code) {
			return
		}
		code[i]++
	}
}

// checkAbout asks of each vector of three places about nought whether it is a sum of k's rows just if a turns it to nought.
func checkAbout(t *testing.T, a, k []api.Vec) {
	t.Helper()
	for x := -2; x <= 2; x++ {
		for y := -2; y <= 2; y++ {
			for z := -2; z <= 2; z++ {
				v := vector(x, y, z)
				nought := dot(a[0], v).Sign() == 0 && dot(a[1], v).Sign() == 0
				if Has(a, v) != nought {
					t.Errorf("Has(%v, %v), want %v", a, v, nought)
				}
				// A vector is in a lattice just if its form stays, with the vector among its rows.
				more, _ := hnf.Hnf(append(slices.Clip(k), v), 3)
				if alikeRows(more, k) != nought {
					t.Errorf("Of(%v, 3) is %v: is %v in its lattice? want %v", a, k, v, nought)
				}
			}
		}
	}
}

// P11.1: rows of which a multiple alone is a sum of given ones.
func TestNoMultiples(t *testing.T) {
	for _, c := range []struct {
		n       int
		h, want [][]int
	}{
		{2, [][]int{{2, 4}}, [][]int{{2, -1}}}, {2, [][]int{{6, -10}}, [][]int{{5, 3}}}, {1, [][]int{{0}}, [][]int{{1}}}, {3, [][]int{{2, 0, 0}, {0, 4, 6}}, [][]int{{0, 3, -2}}},
		{3, [][]int{{2, 2, 0}, {0, 2, 2}}, [][]int{{1, -1, 1}}}, {3, [][]int{{3, 1, 2}, {0, 5, 5}}, [][]int{{1, 3, -3}}}, {4, [][]int{{2, 0, 1, 1}, {0, 2, 1, -1}}, [][]int{{1, 0, -1, -1}, {0, 1, -1, 1}}},
	} {
		expect(t, list(c.h...), c.n, list(c.want...))
		checkKernel(t, list(c.h...), c.n)
	}
	// Across twice has all of which a multiple is in h's lattice, so that it is h's own only if that has them.
	for _, c := range []struct {
		n       int
		h, want [][]int
	}{
		{2, [][]int{{2, 4}}, [][]int{{1, 2}}}, {2, [][]int{{1, 0}, {0, 5}}, [][]int{{1, 0}, {0, 1}}}, {3, [][]int{{2, 2, 0}, {0, 2, 2}}, [][]int{{1, 0, -1}, {0, 1, 1}}}, {3, [][]int{{1, 1, 1}, {0, 3, 6}}, [][]int{{1, 0, -1}, {0, 1, 2}}}, {2, nil, nil},
	} {
		expect(t, of(t, list(c.h...), c.n), c.n, list(c.want...))
	}
}

// P11.1: rows exchanged, turned round, times a number, added to one another, told twice, with noughts among them: one kernel.
func TestOneKernel(t *testing.T) {
	chance := rand.New(rand.NewSource(1100))
	for _, c := range handed() {
		want := of(t, c.l, c.n)
		l := slices.Clone(c.l)
		for range 8 {
			l = stirred(chance, l, c.n)
			expect(t, l, c.n, want)
		}
		h, _ := hnf.Hnf(c.l, c.n)
		expect(t, h, c.n, want)
	}
}

// stirred is rows with a Dot of 0 with the same vectors.
func stirred(chance *rand.Rand, l []api.Vec, n int) []api.Vec {
	l = slices.Clone(l)
	if len(l) == 0 {
		return append(l, make(api.Vec, n))
	}
	i, j := chance.Intn(len(l)), chance.Intn(len(l))
	switch chance.Intn(6) {
	case 0:
		l[i], l[j] = l[j], l[i]
	case 1:
		l[i] = vec.Neg(l[i])
	case 2:
		if i != j {
			l[i] = vec.Add(l[i], vec.Times(l[j], whole.Of(chance.Intn(9)-4)))
		}
	case 3:
		l = append(l, l[i])
	case 4:
		l = slices.Insert(l, i, make(api.Vec, n))
	case 5:
		l[i] = vec.Times(l[i], whole.Of(2+chance.Intn(5)))
	}
	return l
}

// P11.1: 64 places, and more rows than Form takes places.
func TestGreat(t *testing.T) {
	chance := rand.New(rand.NewSource(111))
	for _, size := range [][2]int{{1, 64}, {20, 64}, {63, 64}, {64, 64}, {70, 3}, {100, 12}, {65, 64}} {
		l := chosen(chance, size[0], size[1], 4)
		checkKernel(t, l, size[1])
		checkKernel(t, each(l, scaled), size[1])
	}
	// 100 rows that depend on 20, so that 44 are left.
	bound := rows.Product(chosen(chance, 100, 20, 2), chosen(chance, 20, 64, 2))
	checkKernel(t, bound, 64)
	if r := Rank(bound, 64); r != 20 {
		t.Errorf("the rank of sums of 20 rows is %d", r)
	}
	narrow := chosen(chance, 1000, 2, 50)
	for _, v := range narrow {
		v[1] = whole.Mul(v[0], whole.Of(-3))
	}
	expect(t, narrow, 2, list([]int{3, 1}))
}

// P11.1: of no rows, noughts, such as depend on one another.
func TestRank(t *testing.T) {
	for _, c := range []struct {
		n, want int
		a       [][]int
	}{
		{1, 0, nil}, {64, 0, nil}, {1, 0, [][]int{{0}}}, {3, 0, [][]int{{0, 0, 0}, {0, 0, 0}}}, {1, 1, [][]int{{-9}}}, {1, 1, [][]int{{4}, {6}, {0}}}, {3, 1, [][]int{{0, 0, 2}}}, {3, 1, [][]int{{1, 2, 3}, {-2, -4, -6}, {0, 0, 0}}},
		{2, 2, [][]int{{1, 2}, {2, 1}}}, {2, 1, [][]int{{6, 4}, {9, 6}}}, {3, 2, [][]int{{1, 2, 3}, {4, 5, 6}, {7, 8, 9}}}, {3, 3, [][]int{{1, 2, 3}, {4, 5, 6}, {7, 8, 10}}}, {2, 2, [][]int{{0, 0}, {5, 0}, {0, 0}, {5, 5}, {10, 5}}}, {4, 2, [][]int{{1, 0, 1, 0}, {0, 1, 0, 1}, {1, 1, 1, 1}}},
	} {
		for _, w := range ways() {
			if l := each(list(c.a...), w); Rank(l, c.n) != c.want {
				t.Errorf("Rank(%v, %d) is %d, want %d", l, c.n, Rank(l, c.n), c.want)
			}
		}
	}
	if r := Rank([]api.Vec{noughts(), lone(10, 9, many(50)), noughts()}, 10); r != 1 {
		t.Errorf("noughts in all their forms: %d", r)
	}
	if r := Rank(units(64), 64); r != 64 {
		t.Errorf("64 unit rows: %d", r)
	}
}

// P11.3: Across of Across of a kernel is the kernel; the two are of n rows together.
func TestAcrossTwice(t *testing.T) {
	for _, c := range handed() {
		k := of(t, c.l, c.n)
		b, e := Across(k, c.n)
		if e != api.OK || len(b)+len(k) != c.n {
			t.Errorf("Across(%v, %d) is %v, %v", k, c.n, b, e)
		}
		if twice, e := Across(b, c.n); e != api.OK || !alikeRows(twice, k) {
			t.Errorf("Across twice of %v is %v, %v", k, twice, e)
		}
		for _, v := range k {
			if !Has(b, v) {
				t.Errorf("%v does not stand across %v", v, b)
			}
		}
		// The given rows stand across the kernel themselves.
		for _, v := range c.l {
			if more, _ := hnf.Hnf(append(slices.Clip(b), v), c.n); !alikeRows(more, b) {
				t.Errorf("%v is not in what stands across %v: %v", v, k, b)
			}
		}
	}
}

// P11.2: a Dot of 0 with one row and not with another one, vectors shorter and longer than the rows, no rows, rows that have not Form.
func TestHas(t *testing.T) {
	for _, c := range []struct {
		a    [][]int
		x    []int
		want bool
	}{
		{nil, nil, true}, {nil, []int{1}, true}, {nil, []int{0, 0}, true}, {[][]int{nil}, []int{3}, true}, {[][]int{{1, 2}}, nil, true}, {[][]int{nil, nil}, nil, true}, {[][]int{{0}}, []int{5}, true}, {[][]int{{5}}, []int{0}, true}, {[][]int{{5}}, []int{1}, false}, {[][]int{{-5}}, []int{1}, false},
		{[][]int{{1, 1, 1}}, []int{1, 0, -1}, true}, {[][]int{{1, 1, 1}}, []int{1, 0, 1}, false}, {[][]int{{1, 1, 1}}, []int{1, 0, -2}, false},
		// One row has it, another one has not.
		{[][]int{{1, 1}, {1, -1}}, []int{1, -1}, false}, {[][]int{{1, -1}, {1, 1}}, []int{1, -1}, false}, {[][]int{{1, 1}, {2, 2}, {1, 0}}, []int{1, -1}, false}, {[][]int{{1, 0}, {1, 1}, {2, 2}}, []int{1, -1}, false}, {[][]int{{1, 1}, {1, 0}, {2, 2}}, []int{1, -1}, false}, {[][]int{{1, 1}, {0, 0}, {2, 2}}, []int{1, -1}, true},
		// Their sum is 0, but not each.
		{[][]int{{1, 0}, {-1, 0}}, []int{1, 0}, false}, {[][]int{{1, 0}, {0, 1}}, []int{1, -1}, false},
		// Shorter and longer.
		{[][]int{{1, 1, 1}}, []int{1, -1}, true}, {[][]int{{1, 1, 1}}, []int{1}, false}, {[][]int{{0, 1, 1}}, []int{1}, true}, {[][]int{{1, 1}}, []int{1, -1, 9}, true}, {[][]int{{1, 1}}, []int{1, 0, -1}, false}, {[][]int{{1, 2}, {1}}, []int{0, 0, 5}, true}, {[][]int{{1, 2}, {1}}, []int{2, -1}, false}, {[][]int{{1}, {0, 0, 1}}, []int{0, 7}, true}, {[][]int{{1}, {0, 0, 1}}, []int{0, 7, 1}, false},
	} {
		for _, w := range ways() {
			a := each(list(c.a...), w)
			for _, x := range []api.Vec{vec.Of(c.x), padded(vec.Of(c.x)), scaled(vec.Of(c.x)), append(vec.Of(c.x), noughts()...)} {
				if Has(a, x) != c.want {
					t.Errorf("Has(%v, %v), want %v", a, x, c.want)
				}
			}
		}
	}
	a, b := many(30), many(20)
	if !Has([]api.Vec{{a, b}, {whole.Neg(a), whole.Neg(b)}}, api.Vec{b, whole.Neg(a)}) || Has([]api.Vec{{a, b}}, api.Vec{b, whole.Neg(whole.Sub(a, whole.Of(1)))}) {
		t.Error("many limbs")
	}
	if Has([]api.Vec{lone(90, 80, whole.Of(1))}, lone(81, 80, whole.Of(1))) || !Has([]api.Vec{lone(90, 80, whole.Of(1))}, lone(90, 81, whole.Of(1))) || Has(units(100), lone(100, 99, whole.Of(1))) || !Has(units(99), lone(100, 99, whole.Of(1))) {
		t.Error("beyond 64 places and rows")
	}
}

// call is one call by which rows may be changed, kept or told.
type call struct {
	name string
	do   func(l []api.Vec, n int) []api.Vec
}

// calls tells small answers as rows too; Has asks the first row of the others.
func calls() []call {
	truth := map[bool]int{true: 1}
	return []call{
		{"Of", func(l []api.Vec, n int) []api.Vec {
			k, e := Of(l, n)
			return append(k, vector(int(e)))
		}},
		{"Across", func(l []api.Vec, n int) []api.Vec {
			k, e := Across(l, n)
			return append(k, vector(int(e)))
		}},
		{"Rank", func(l []api.Vec, n int) []api.Vec { return list([]int{Rank(l, n)}) }},
		{"Has", func(l []api.Vec, n int) []api.Vec {
			if len(l) == 0 {
				return list([]int{truth[Has(l, nil)]})
			}
			return list([]int{truth[Has(l[1:], l[0])]})
		}},
	}
}

// guard is rows with marks behind them, behind each one's places and behind each place's limbs; memory is all of the rows, places and limbs.
type guard struct {
	l, memory []api.Vec
	places    []api.Vec
	limbs     [][]uint32
}

func guarded(l []api.Vec) guard {
	var g guard
	for _, v := range l {
		var places api.Vec
		for _, a := range v {
			limbs := append(slices.Clone(a.Mag), mark, mark, mark)
			g.limbs = append(g.limbs, limbs)
			places = append(places, api.Int{Neg: a.Neg, Mag: limbs[:len(a.Mag)]})
		}
		places = append(places, whole.Of(mark), whole.Of(-1))
		g.places = append(g.places, places)
		g.memory = append(g.memory, places[:len(v)])
	}
	g.memory = append(g.memory, vector(mark), vector(-1, -2))
	g.l = g.memory[:len(l)]
	return g
}

// untouched tells whether all of the memory is as it is made of l.
func (g guard) untouched(l []api.Vec) bool {
	fresh := guarded(l)
	return alikeRows(g.memory, fresh.memory) && alikeRows(g.places, fresh.places) && slices.EqualFunc(g.limbs, fresh.limbs, slices.Equal)
}

// copied is l in memory of its own.
func copied(l []api.Vec) []api.Vec {
	return each(l, func(v api.Vec) api.Vec {
		var out api.Vec
		for _, a := range v {
			out = append(out, api.Int{Neg: a.Neg, Mag: slices.Clip(slices.Clone(a.Mag))})
		}
		return out
	})
}

// scribble spoils an Int's limbs, and what lies behind them.
func scribble(a api.Int) {
	for i := range a.Mag[:cap(a.Mag)] {
		a.Mag[:cap(a.Mag)][i] = mark + 1
	}
}

// spoilVector scribbles on a vector's places, and on what lies behind.
func spoilVector(v api.Vec) {
	for i, a := range v[:cap(v)] {
		scribble(a)
		v[:cap(v)][i] = whole.Of(mark)
	}
}

// spoil scribbles on rows, and on what lies behind.
func spoil(l []api.Vec) {
	for i, v := range l[:cap(l)] {
		spoilVector(v)
		l[:cap(l)][i] = vector(mark)
	}
}

// P11.1, P11.2 with R2: what is handed in is neither changed nor kept, what lies behind it is not read.
func TestHandedInStays(t *testing.T) {
	for _, c := range calls() {
		for _, s := range append(handed(), wrong()...) {
			checkStays(t, c, s)
		}
	}
}

func checkStays(t *testing.T, c call, s sample) {
	t.Helper()
	in := guarded(s.l)
	want := copied(c.do(copied(s.l), s.n))
	got := c.do(in.l, s.n)
	spoil(c.do(in.l, s.n))
	if !alikeRows(got, want) {
		t.Errorf("%s of %v hangs on what lies behind, or two calls' answers share memory", c.name, s)
	}
	checkApart(t, c.name, got)
	spoil(got)
	if !in.untouched(s.l) {
		t.Errorf("%s of %v: what is handed in is changed or shared", c.name, s)
	}
}

// checkApart spoils one number, one row behind the other: what is not spoilt yet must stay.
func checkApart(t *testing.T, name string, got []api.Vec) {
	t.Helper()
	want := copied(got)
	for i, v := range got {
		for j := range v {
			scribble(v[j])
			if !alikeVectors(v[j+1:], want[i][j+1:]) {
				t.Errorf("%s: row %d's place %d shares memory with one behind it", name, i, j)
			}
		}
		spoilVector(v)
		if !alikeRows(got[i+1:], want[i+1:]) {
			t.Errorf("%s: row %d shares memory with one behind it", name, i)
		}
	}
}

// P11.1 with R2: one row that stands in the list several times, rows that share places and limbs.
func TestSharedMemory(t *testing.T) {
	mag := []uint32{2, 1, 0}
	v := api.Vec{{Neg: true, Mag: mag}, {Mag: mag[1:]}, {Neg: true, Mag: mag[2:]}, {Mag: mag[:1]}}
	l := []api.Vec{v[:3], v[:3], v[:3]}
	was := guarded(l)
	want := []api.Vec{{whole.Of(1), {Mag: []uint32{2, 1}}, {}}, vector(0, 0, 1)}
	expect(t, l, 3, want)
	for _, c := range calls() {
		got := c.do(l, 3)
		checkApart(t, c.name, got)
		spoil(got)
	}
	expect(t, l, 3, want)
	expect(t, []api.Vec{v[:2], v[1:3], v[2:]}, 2, nil)
	if !was.untouched(l) || !slices.Equal(mag, []uint32{2, 1, 0}) {
		t.Error("what was handed in is changed:", l)
	}
}
