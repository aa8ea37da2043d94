package hnf

import (
	"math"
	"math/big"
	"math/rand"
	"slices"
	"testing"

	"quincunx/api"
	"quincunx/rows"
	"quincunx/vec"
	"quincunx/whole"
)

const (
	top  = math.MaxUint32
	mark = 0xdeadbeef
)

// many is a number of n limbs.
func many(n int) api.Int {
	return api.Int{Mag: slices.Repeat([]uint32{top}, n)}
}

// vector is short for a vector of ints.
func vector(l ...int) api.Vec {
	return vec.Of(l)
}

// list is short for rows of ints.
func list(l ...[]int) []api.Vec {
	var out []api.Vec
	for _, row := range l {
		out = append(out, vec.Of(row))
	}
	return out
}

// lone is n noughts, but for x at place i.
func lone(n, i int, x api.Int) api.Vec {
	v := make(api.Vec, n)
	v[i] = x
	return v
}

// units are n unit rows.
func units(n int) []api.Vec {
	var out []api.Vec
	for i := range n {
		out = append(out, lone(n, i, whole.Of(1)))
	}
	return out
}

// noughts are 0 in all its forms.
func noughts() api.Vec {
	var all api.Vec
	for _, mag := range [][]uint32{nil, {}, {0}, {0, 0}, make([]uint32, 100)} {
		all = append(all, api.Int{Mag: mag}, api.Int{Neg: true, Mag: mag})
	}
	return all
}

// padded is v, each place with noughts behind its limbs, and 0 with a sign too.
func padded(v api.Vec) api.Vec {
	var out api.Vec
	for _, a := range v {
		out = append(out, api.Int{Neg: a.Neg || len(a.Mag) == 0, Mag: append(slices.Clone(a.Mag), 0, 0)})
	}
	return out
}

// scaled is v, each place times a number of many limbs.
func scaled(v api.Vec) api.Vec {
	return vec.Times(v, many(7))
}

// each is every row turned by f.
func each(l []api.Vec, f func(api.Vec) api.Vec) []api.Vec {
	var out []api.Vec
	for _, v := range l {
		out = append(out, f(v))
	}
	return out
}

// way is one in which rows may be handed in, and what comes of the form by it.
type way struct{ in, out func(api.Vec) api.Vec }

// ways keep what is in the form in it.
func ways() []way {
	plain := func(v api.Vec) api.Vec { return v }
	return []way{{plain, plain}, {padded, plain}, {scaled, scaled}, {func(v api.Vec) api.Vec { return padded(scaled(v)) }, scaled}}
}

// alike holds two Ints against each other limb by limb: not only by their values.
func alike(a, b api.Int) bool {
	return a.Neg == b.Neg && slices.Equal(a.Mag, b.Mag)
}

func alikeVectors(v, w api.Vec) bool {
	return slices.EqualFunc(v, w, alike)
}

// alikeRows asks for as many rows, each of as many places, limb by limb.
func alikeRows(a, b []api.Vec) bool {
	return slices.EqualFunc(a, b, alikeVectors)
}

// expect asks for the form of l.
func expect(t *testing.T, l []api.Vec, n int, want []api.Vec) {
	t.Helper()
	if h, e := Hnf(l, n); e != api.OK || !alikeRows(h, want) {
		t.Errorf("Hnf(%v, %d) is %v, %v, want %v", l, n, h, e, want)
	}
}

func value(a api.Int) *big.Int {
	v := new(big.Int)
	for _, x := range slices.Backward(a.Mag) {
		v.Lsh(v, 32)
		v.Or(v, big.NewInt(int64(x)))
	}
	if a.Neg {
		v.Neg(v)
	}
	return v
}

// number is an Int in its one form, by another way than the program's.
func number(v *big.Int) api.Int {
	a := api.Int{Neg: v.Sign() < 0}
	low := big.NewInt(top)
	for v = new(big.Int).Abs(v); v.Sign() > 0; v.Rsh(v, 32) {
		a.Mag = append(a.Mag, uint32(new(big.Int).And(v, low).Uint64()))
	}
	return a
}

func values(l []api.Vec) [][]*big.Int {
	var out [][]*big.Int
	for _, v := range l {
		var row []*big.Int
		for _, a := range v {
			row = append(row, value(a))
		}
		out = append(out, row)
	}
	return out
}

// takeAway takes from v times w.
func takeAway(v, w []*big.Int, times *big.Int) {
	for i := range v {
		v[i].Sub(v[i], new(big.Int).Mul(times, w[i]))
	}
}

// byColumns is the form by another way than the program's: column by column, the least number there taken from the others until it stands alone.
func byColumns(l []api.Vec, n int) []api.Vec {
	m, done := values(l), 0
	for j := range n {
		for {
			least, others := -1, 0
			for i := done; i < len(m); i++ {
				if m[i][j].Sign() == 0 {
					continue
				}
				others++
				if least < 0 || m[i][j].CmpAbs(m[least][j]) < 0 {
					least = i
				}
			}
			if others == 0 {
				break
			}
			m[done], m[least] = m[least], m[done]
			for i := done + 1; i < len(m); i++ {
				takeAway(m[i], m[done], new(big.Int).Quo(m[i][j], m[done][j]))
			}
			if others > 1 {
				continue
			}
			if m[done][j].Sign() < 0 {
				takeAway(m[done], m[done], big.NewInt(2))
			}
			for i := range done {
				takeAway(m[i], m[done], new(big.Int).Div(m[i][j], m[done][j]))
			}
			done++
			break
		}
	}
	var out []api.Vec
	for _, row := range m[:done] {
		var v api.Vec
		for _, x := range row {
			v = append(v, number(x))
		}
		out = append(out, v)
	}
	return out
}

// determinant is that of square rows, by Bareiss's rule.
func determinant(l []api.Vec) *big.Int {
	m, sign, last := values(l), int64(1), big.NewInt(1)
	for k := range m {
		at := slices.IndexFunc(m[k:], func(row []*big.Int) bool { return row[k].Sign() != 0 })
		if at < 0 {
			return new(big.Int)
		}
		if at > 0 {
			m[k], m[k+at] = m[k+at], m[k]
			sign = -sign
		}
		for i := k + 1; i < len(m); i++ {
			for j := k + 1; j < len(m); j++ {
				x := new(big.Int).Mul(m[i][j], m[k][k])
				x.Sub(x, new(big.Int).Mul(m[i][k], m[k][j]))
				m[i][j] = x.Quo(x, last)
			}
		}
		last = m[k][k]
	}
	return new(big.Int).Mul(last, big.NewInt(sign))
}

// sample is rows that have Form.
type sample struct {
	l []api.Vec
	n int
}

// handed are rows as they may be handed in: none, noughts, one, more than places and fewer, such as depend on one another, some of many limbs.
func handed() []sample {
	odd, huge := many(5), many(40)
	all := []sample{
		{nil, 1}, {[]api.Vec{}, 64}, {list([]int{0}), 1}, {list([]int{0, 0}, []int{0, 0}), 2}, {[]api.Vec{noughts(), noughts()}, 10}, {list([]int{5}), 1}, {list([]int{-5}), 1}, {list([]int{6}, []int{-10}, []int{15}), 1},
		{list([]int{0, -3, 1}), 3}, {list([]int{2, 4}, []int{3, 1}), 2}, {list([]int{1, 2, 3}, []int{4, 5, 6}, []int{7, 8, 9}), 3}, {list([]int{1, 2, 3}, []int{-1, -2, -3}), 3}, {list([]int{0, 0, 4}, []int{0, 6, 0}, []int{10, 0, 0}), 3},
		{list([]int{6, 1}, []int{10, 1}, []int{15, 1}, []int{0, 30}), 2}, {list([]int{3, 1, 4, 1}, []int{5, 9, 2, 6}, []int{5, 3, 5, 8}), 4}, {list([]int{math.MinInt, 1}, []int{math.MaxInt, -1}), 2},
		{[]api.Vec{{odd, whole.Neg(huge)}, {whole.Neg(odd), huge}, {whole.Mul(odd, huge), {}}, vector(0, 1)}, 2}, {[]api.Vec{{{}, whole.Neg(odd), huge}, {huge, {}, odd}}, 3},
		{[]api.Vec{lone(64, 63, whole.Neg(odd)), make(api.Vec, 64), lone(64, 0, whole.Of(3))}, 64}, {slices.Repeat(list([]int{4, -6}), 5), 2},
	}
	chance := rand.New(rand.NewSource(10))
	for _, size := range [][2]int{{1, 1}, {1, 4}, {2, 2}, {2, 3}, {3, 2}, {3, 3}, {4, 4}, {4, 7}, {7, 4}, {6, 6}, {12, 3}, {3, 12}} {
		for _, span := range []int{1, 3, 100} {
			l := chosen(chance, size[0], size[1], span)
			// Sums of rows with small numbers, so that they depend on one another.
			bound := rows.Product(chosen(chance, size[0], max(1, size[0]/2), 2), l)
			all = append(all, sample{l, size[1]}, sample{bound, size[1]})
		}
	}
	for _, s := range slices.Clone(all) {
		all = append(all, sample{each(s.l, padded), s.n}, sample{each(s.l, scaled), s.n})
	}
	return all
}

// chosen are that many rows of n places from -span to span.
func chosen(chance *rand.Rand, many, n, span int) []api.Vec {
	var l []api.Vec
	for range many {
		v := make(api.Vec, n)
		for i := range v {
			v[i] = whole.Of(chance.Intn(2*span+1) - span)
		}
		l = append(l, v)
	}
	return l
}

// wrong are rows that have not Form, by n.
func wrong() []sample {
	return []sample{
		{nil, 0}, {nil, -1}, {nil, 65}, {nil, math.MinInt}, {nil, math.MaxInt}, {[]api.Vec{nil}, 0}, {[]api.Vec{nil}, 1}, {[]api.Vec{{}, {}}, -1},
		{list([]int{1, 2}), 1}, {list([]int{1, 2}), 3}, {list([]int{1, 2}), 0}, {list([]int{1, 2}), -1}, {list([]int{1, 2}), 65}, {list([]int{1, 0}), 1},
		{list([]int{1, 2}, []int{3}), 2}, {list([]int{1, 2}, []int{0, 3, 0}), 2}, {list([]int{1}, []int{0, 3}), 2}, {list([]int{1, 0}, nil), 2}, {list(nil, []int{0, 1}), 2},
		{[]api.Vec{make(api.Vec, 65)}, 65}, {[]api.Vec{lone(65, 0, whole.Of(1))}, 64}, {[]api.Vec{lone(64, 0, whole.Of(1))}, 63}, {units(65), 65},
	}
}

// P10.1: no rows: yes, if n is 1 to 64.
func TestIsOfNoRows(t *testing.T) {
	for _, n := range []int{math.MinInt, -64, -1, 0, 1, 2, 63, 64, 65, 66, 128, math.MaxInt} {
		want := n >= 1 && n <= 64
		if Is(nil, n) != want || Is([]api.Vec{}, n) != want {
			t.Errorf("Is of no rows at %d, want %v", n, want)
		}
	}
}

// P10.1: nought rows, pivots that do not rise, numbers at a pivot and ahead of one about their bounds.
func TestIs(t *testing.T) {
	for _, c := range []struct {
		l    [][]int
		want bool
	}{
		{[][]int{{1, 0, 0}}, true}, {[][]int{{5, -7, 9}}, true}, {[][]int{{0, 0, 9}}, true}, {[][]int{{0, 3, -3}}, true}, {[][]int{{1, 0, 0}, {0, 1, 0}, {0, 0, 1}}, true},
		{[][]int{{0, 0, 0}}, false}, {[][]int{{1, 0, 0}, {0, 0, 0}}, false}, {[][]int{{0, 0, 0}, {1, 0, 0}}, false}, {[][]int{{1, 0, 0}, {0, 0, 0}, {0, 1, 0}}, false},
		{[][]int{{0, 1, 3}, {1, 0, 2}}, false}, {[][]int{{1, 0, 0}, {2, 0, 0}}, false}, {[][]int{{2, 0, 0}, {1, 0, 0}}, false}, {[][]int{{0, 1, 0}, {0, 1, 0}}, false}, {[][]int{{1, 0, 0}, {0, 0, 1}, {0, 1, 0}}, false}, {[][]int{{2, 0, 0}, {1, 5, 0}}, false},
		{[][]int{{-1, 0, 0}}, false}, {[][]int{{0, 0, -9}}, false}, {[][]int{{1, 0, 0}, {0, -3, 0}}, false}, {[][]int{{-1, 0, 0}, {0, 3, 0}}, false}, {[][]int{{1, -1, 0}, {0, -3, 0}}, false},
		{[][]int{{1, 0, 0}, {0, 3, 0}}, true}, {[][]int{{1, 1, 0}, {0, 3, 0}}, true}, {[][]int{{1, 2, 0}, {0, 3, 0}}, true}, {[][]int{{1, 3, 0}, {0, 3, 0}}, false}, {[][]int{{1, 4, 0}, {0, 3, 0}}, false}, {[][]int{{1, -1, 0}, {0, 3, 0}}, false}, {[][]int{{1, -3, 0}, {0, 3, 0}}, false},
		// Behind the last pivot, and between two, any number may stand.
		{[][]int{{1, 2, -50}, {0, 3, 99}}, true}, {[][]int{{1, -50, 2}, {0, 0, 3}}, true}, {[][]int{{1, 70, 3}, {0, 0, 3}}, false},
		// The row right ahead, and the one ahead of it.
		{[][]int{{1, 1, 2}, {0, 2, 2}, {0, 0, 3}}, true}, {[][]int{{1, 1, 3}, {0, 2, 2}, {0, 0, 3}}, false}, {[][]int{{1, 1, -1}, {0, 2, 2}, {0, 0, 3}}, false}, {[][]int{{1, 1, 2}, {0, 2, 3}, {0, 0, 3}}, false}, {[][]int{{1, 1, 2}, {0, 2, -1}, {0, 0, 3}}, false}, {[][]int{{1, 2, 2}, {0, 2, 2}, {0, 0, 3}}, false},
		{[][]int{{1, 0, 0}, {0, 1, 0}, {0, 0, 1}, {0, 0, 0}}, false}, {[][]int{{1, 0, 0}, {0, 1, 0}, {0, 0, 1}, {0, 0, 1}}, false},
	} {
		for _, w := range ways() {
			if l := each(list(c.l...), w.in); Is(l, 3) != c.want {
				t.Errorf("Is(%v, 3), want %v", l, c.want)
			}
		}
	}
	less := whole.Sub(many(9), whole.Of(1))
	if !Is([]api.Vec{{many(20), less}, {{}, many(9)}}, 2) || Is([]api.Vec{{many(20), many(9)}, {{}, many(9)}}, 2) || Is([]api.Vec{{many(20), many(9)}, {{}, less}}, 2) {
		t.Error("many limbs")
	}
	if !Is(units(64), 64) || Is([]api.Vec{noughts()}, 10) || Is([]api.Vec{lone(64, 63, whole.Of(-1))}, 64) {
		t.Error("64 places, noughts")
	}
}

// P10.1: rows that have not Form are not in the form.
func TestIsOfWrong(t *testing.T) {
	for _, c := range wrong() {
		if Is(c.l, c.n) {
			t.Errorf("Is(%v, %d)", c.l, c.n)
		}
	}
}

// P10.1: no rows, nought rows, rows without places, of different lengths, beyond 64 places.
func TestPivots(t *testing.T) {
	for _, c := range []struct {
		l    [][]int
		want []int
	}{
		{nil, nil}, {[][]int{{}}, []int{-1}}, {[][]int{{}, {0}, {0, 0, 0}}, []int{-1, -1, -1}}, {[][]int{{3}}, []int{0}}, {[][]int{{-3}}, []int{0}},
		{[][]int{{0, 2}, {0, 0}, {5}, {}}, []int{1, -1, 0, -1}}, {[][]int{{0, 0, -1, 5}, {0, 1, 0, 0}, {7, 8}}, []int{2, 1, 0}}, {[][]int{{0, 0, 0, 0, 1}, {0, 0, 0, 0, 1}}, []int{4, 4}},
	} {
		for _, w := range ways() {
			if l := each(list(c.l...), w.in); !slices.Equal(Pivots(l), c.want) {
				t.Errorf("Pivots(%v) is %v, want %v", l, Pivots(l), c.want)
			}
		}
	}
	if p := Pivots([]api.Vec{noughts(), append(noughts(), many(2)), lone(90, 80, whole.Of(-1)), make(api.Vec, 90)}); !slices.Equal(p, []int{-1, 10, 80, -1}) {
		t.Error("noughts, beyond 64 places:", p)
	}
	var want []int
	for i := range 100 {
		want = append(want, i)
	}
	if p := Pivots(units(100)); !slices.Equal(p, want) {
		t.Error("beyond 64 rows:", p)
	}
}

// P10.2: the document's example, no rows, noughts alone, one row, more rows than places, fewer, such as depend on one another.
func TestHnf(t *testing.T) {
	for _, c := range []struct {
		n       int
		l, want [][]int
	}{
		{2, [][]int{{2, 4}, {3, 1}}, [][]int{{1, 7}, {0, 10}}},
		{1, nil, nil}, {64, nil, nil}, {1, [][]int{{0}}, nil}, {2, [][]int{{0, 0}, {0, 0}}, nil}, {3, [][]int{{0, 0, 0}, {0, 0, -2}, {0, 0, 0}}, [][]int{{0, 0, 2}}},
		{1, [][]int{{7}}, [][]int{{7}}}, {1, [][]int{{-7}}, [][]int{{7}}}, {3, [][]int{{0, -3, 4}}, [][]int{{0, 3, -4}}}, {3, [][]int{{0, 3, -4}}, [][]int{{0, 3, -4}}}, {2, [][]int{{-4, -6}}, [][]int{{4, 6}}},
		{1, [][]int{{6}, {10}, {15}}, [][]int{{1}}}, {1, [][]int{{-4}, {6}}, [][]int{{2}}}, {2, [][]int{{5, 0}, {7, 0}}, [][]int{{1, 0}}}, {2, [][]int{{2, 0}, {0, 2}, {1, 1}}, [][]int{{1, 1}, {0, 2}}},
		{2, [][]int{{-6, 4}, {10, 14}, {15, 21}}, [][]int{{1, 51}, {0, 62}}}, {2, [][]int{{4, 6}, {6, 9}}, [][]int{{2, 3}}}, {2, [][]int{{1, 5}, {0, 3}}, [][]int{{1, 2}, {0, 3}}}, {2, [][]int{{1, -1}, {0, 3}}, [][]int{{1, 2}, {0, 3}}},
		{2, [][]int{{1, 3}, {0, 3}}, [][]int{{1, 0}, {0, 3}}}, {2, [][]int{{1, -3}, {0, -3}}, [][]int{{1, 0}, {0, 3}}}, {2, [][]int{{0, 3}, {1, 4}}, [][]int{{1, 1}, {0, 3}}},
		{3, [][]int{{1, 2, 3}, {4, 5, 6}, {7, 8, 9}}, [][]int{{1, 2, 3}, {0, 3, 6}}}, {3, [][]int{{1, 2, 3}, {-2, -4, -6}, {3, 6, 9}}, [][]int{{1, 2, 3}}}, {3, [][]int{{2, 1, 0}, {0, 0, 5}}, [][]int{{2, 1, 0}, {0, 0, 5}}},
		{4, [][]int{{1, 1, 1, 1}, {0, 1, 2, 3}}, [][]int{{1, 0, -1, -2}, {0, 1, 2, 3}}}, {3, [][]int{{0, 0, 4}, {0, 6, 0}, {10, 0, 0}}, [][]int{{10, 0, 0}, {0, 6, 0}, {0, 0, 4}}},
		{3, [][]int{{1, 7, 9}, {0, 4, 9}, {0, 0, 5}}, [][]int{{1, 3, 0}, {0, 4, 4}, {0, 0, 5}}},
	} {
		for _, w := range ways() {
			expect(t, each(list(c.l...), w.in), c.n, each(list(c.want...), w.out))
		}
	}
	expect(t, []api.Vec{noughts(), noughts()}, 10, nil)
	// The least int has no counterpart above 0 among the ints.
	expect(t, list([]int{math.MinInt}), 1, []api.Vec{{{Mag: []uint32{0, 1 << 31}}}})
	expect(t, append(units(64), lone(64, 5, many(30))), 64, units(64))
	expect(t, []api.Vec{{many(6)}, {many(9)}, {whole.Neg(many(15))}}, 1, []api.Vec{{many(3)}})
	more := whole.Add(many(9), whole.Of(1))
	// Their difference is (1, -1), their determinant the sum of the two numbers.
	expect(t, []api.Vec{{many(9), more}, {more, many(9)}}, 2, []api.Vec{{whole.Of(1), whole.Add(many(9), many(9))}, {{}, whole.Add(many(9), more)}})
}

// P10.2: rows that have not Form.
func TestWrong(t *testing.T) {
	for _, c := range wrong() {
		if h, e := Hnf(c.l, c.n); e != api.ErrArg || h != nil {
			t.Errorf("Hnf(%v, %d) is %v, %v", c.l, c.n, h, e)
		}
		if h, s, e := Turned(c.l, c.n); e != api.ErrArg || h != nil || s != nil {
			t.Errorf("Turned(%v, %d) is %v, %v, %v", c.l, c.n, h, s, e)
		}
	}
}

// P10.2: held against the form by another way, and against the words of P10.1.
func TestHnfOfMany(t *testing.T) {
	for _, c := range handed() {
		want := byColumns(c.l, c.n)
		expect(t, c.l, c.n, want)
		if !Is(want, c.n) {
			t.Errorf("%v is in the form", want)
		}
	}
}

// P10.1, P10.2, P10.3: of all small rows; just those in the form are their own form.
func TestAllSmall(t *testing.T) {
	const low, kinds = -2, 6
	for code := range kinds * kinds * kinds * kinds {
		var x [4]int
		for i, rest := 0, code; i < len(x); i, rest = i+1, rest/kinds {
			x[i] = low + rest%kinds
		}
		l := list(x[:2], x[2:])
		want := byColumns(l, 2)
		expect(t, l, 2, want)
		if Is(l, 2) != alikeRows(l, want) {
			t.Errorf("Is(%v, 2), but its form is %v", l, want)
		}
		checkTurned(t, l, 2)
	}
}

// checkTurned asks for all that P10.2 says of Turned.
func checkTurned(t *testing.T, l []api.Vec, n int) {
	t.Helper()
	want, _ := Hnf(l, n)
	h, s, e := Turned(l, n)
	if e != api.OK || !alikeRows(h, want) {
		t.Fatalf("Turned(%v, %d) is %v, %v, want %v", l, n, h, e, want)
	}
	if len(s) != len(l) || slices.ContainsFunc(s, func(v api.Vec) bool { return len(v) != len(l) }) {
		t.Fatalf("Turned(%v, %d): %d rows are turned by %v", l, n, len(l), s)
	}
	for len(want) < len(l) {
		want = append(want, make(api.Vec, n))
	}
	if !alikeRows(rows.Product(s, l), want) {
		t.Errorf("Turned(%v, %d): the product is %v, want %v", l, n, rows.Product(s, l), want)
	}
	// Rows are undone by whole numbers just if their determinant is 1 or -1.
	if d := determinant(s); d.CmpAbs(big.NewInt(1)) != 0 {
		t.Errorf("Turned(%v, %d): the determinant of %v is %v", l, n, s, d)
	}
	for _, v := range s {
		if i := slices.IndexFunc(v, func(a api.Int) bool { return !alike(a, number(value(a))) }); i >= 0 {
			t.Errorf("Turned(%v, %d): place %d of %v has not its one form", l, n, i, v)
		}
	}
}

// P10.2: Turned's rows, of all kinds of rows.
func TestTurned(t *testing.T) {
	for _, c := range handed() {
		checkTurned(t, c.l, c.n)
	}
	for _, n := range []int{1, 2, 64} {
		if h, s, e := Turned(nil, n); e != api.OK || len(h)+len(s) > 0 {
			t.Errorf("Turned of no rows is %v, %v, %v", h, s, e)
		}
	}
}

// P10.2: some rows u of whole numbers make Product(u, t) the unit rows: by the form itself, as far as rows of t have Form.
func TestUndone(t *testing.T) {
	for _, c := range handed() {
		_, s, _ := Turned(c.l, c.n)
		if len(s) == 0 {
			continue
		}
		expect(t, s, len(s), units(len(s)))
		_, u, e := Turned(s, len(s))
		if e != api.OK || !alikeRows(rows.Product(u, s), units(len(s))) || !alikeRows(rows.Product(s, u), units(len(s))) {
			t.Errorf("%v is not undone by %v", s, u)
		}
	}
}

// P10.2: 64 places, and more rows than Form takes places; with numbers that grow from step to step it would hardly end.
func TestGreat(t *testing.T) {
	chance := rand.New(rand.NewSource(100))
	for _, size := range [][2]int{{64, 64}, {70, 3}, {100, 12}, {12, 64}, {65, 64}} {
		l := chosen(chance, size[0], size[1], 4)
		checkTurned(t, l, size[1])
		h, _ := Hnf(l, size[1])
		if !Is(h, size[1]) || len(h) != min(size[0], size[1]) {
			t.Errorf("%d rows of %d places: %v", size[0], size[1], h)
		}
		chance.Shuffle(len(l), func(i, j int) { l[i], l[j] = l[j], l[i] })
		expect(t, l, size[1], h)
	}
	wide := append(chosen(chance, 1000, 8, 50), list([]int{0, 0, 0, 0, 0, 0, 0, 1})...)
	expect(t, wide, 8, byColumns(wide, 8))
}

// P10.3: rows exchanged, turned round, added to one another, told twice, with noughts among them: one form.
func TestOneForm(t *testing.T) {
	chance := rand.New(rand.NewSource(1000))
	for _, c := range handed() {
		want, _ := Hnf(c.l, c.n)
		l := slices.Clone(c.l)
		for range 12 {
			l = stirred(chance, l, c.n)
			expect(t, l, c.n, want)
		}
		expect(t, slices.Concat(l, c.l, want), c.n, want)
	}
}

// stirred is rows of the same lattice.
func stirred(chance *rand.Rand, l []api.Vec, n int) []api.Vec {
	l = slices.Clone(l)
	if len(l) == 0 {
		return append(l, make(api.Vec, n))
	}
	i, j := chance.Intn(len(l)), chance.Intn(len(l))
	switch chance.Intn(5) {
	case 0:
		l[i], l[j] = l[j], l[i]
	case 1:
		l[i] = vec.Neg(l[i])
	case 2:
		if i != j {
			l[i] = vec.Add(l[i], vec.Times(l[j], whole.Of(chance.Intn(9)-4)))
		}
	case 3:
		l = append(l, l[i])
	case 4:
		l = slices.Insert(l, i, make(api.Vec, n))
	}
	return l
}

// P10.3: of rows in the form it is they; of another lattice it is another one.
func TestFormOfForm(t *testing.T) {
	for _, c := range handed() {
		h, _ := Hnf(c.l, c.n)
		expect(t, h, c.n, h)
		expect(t, each(h, padded), c.n, h)
		if Is(c.l, c.n) != rows.Same(c.l, h) {
			t.Errorf("Is(%v, %d), but its form is %v", c.l, c.n, h)
		}
		if twice, _ := Hnf(each(h, func(v api.Vec) api.Vec { return vec.Add(v, v) }), c.n); len(h) > 0 && rows.Same(twice, h) {
			t.Errorf("%v and twice that have one form", h)
		}
	}
	for _, l := range [][]api.Vec{list([]int{2, 1, -7, 4}, []int{0, 3, 9, 4}, []int{0, 0, 0, 5}), list([]int{0, 0, 0, 1}), {{many(5), many(8), {}, {}}, {{}, many(9), whole.Neg(many(30)), {}}}} {
		if !Is(l, 4) {
			t.Errorf("%v is in the form", l)
		}
		expect(t, l, 4, l)
	}
}

// call is one call by which rows may be changed, kept or told.
type call struct {
	name string
	do   func(l []api.Vec, n int) []api.Vec
}

// calls tells small answers, and both lists of Turned, as rows.
func calls() []call {
	truth := map[bool]int{true: 1}
	return []call{
		{"Is", func(l []api.Vec, n int) []api.Vec { return list([]int{truth[Is(l, n)]}) }},
		{"Pivots", func(l []api.Vec, n int) []api.Vec { return list(Pivots(l)) }},
		{"Hnf", func(l []api.Vec, n int) []api.Vec {
			h, e := Hnf(l, n)
			return append(h, vector(int(e)))
		}},
		{"Turned", func(l []api.Vec, n int) []api.Vec {
			h, t, e := Turned(l, n)
			return append(append(h, t...), vector(int(e)))
		}},
	}
}

// guard is rows with marks behind them, behind each one's places and behind each place's limbs; memory is all of the rows, places and limbs.
type guard struct {
	l, memory []api.Vec
	places    []api.Vec
	limbs     [][]uint32
}

func guarded(l []api.Vec) guard {
	var g guard
	for _, v := range l {
		var places api.Vec
		for _, a := range v {
			limbs := append(slices.Clone(a.Mag), mark, mark, mark)
			g.limbs = append(g.limbs, limbs)
			places = append(places, api.Int{Neg: a.Neg, Mag: limbs[:len(a.Mag)]})
		}
		places = append(places, whole.Of(mark), whole.Of(-1))
		g.places = append(g.places, places)
		g.memory = append(g.memory, places[:len(v)])
	}
	g.memory = append(g.memory, vector(mark), vector(-1, -2))
	g.l = g.memory[:len(l)]
	return g
}

// untouched tells whether all of the memory is as it is made of l.
func (g guard) untouched(l []api.Vec) bool {
	fresh := guarded(l)
	return alikeRows(g.memory, fresh.memory) && alikeRows(g.places, fresh.places) && slices.EqualFunc(g.limbs, fresh.limbs, slices.Equal)
}

// copied is l in memory of its own.
func copied(l []api.Vec) []api.Vec {
	return each(l, func(v api.Vec) api.Vec {
		var out api.Vec
		for _, a := range v {
			out = append(out, api.Int{Neg: a.Neg, Mag: slices.Clip(slices.Clone(a.Mag))})
		}
		return out
	})
}

// scribble spoils an Int's limbs, and what lies behind them.
func scribble(a api.Int) {
	for i := range a.Mag[:cap(a.Mag)] {
		a.Mag[:cap(a.Mag)][i] = mark + 1
	}
}

// spoilVector scribbles on a vector's places, and on what lies behind.
func spoilVector(v api.Vec) {
	for i, a := range v[:cap(v)] {
		scribble(a)
		v[:cap(v)][i] = whole.Of(mark)
	}
}

// spoil scribbles on rows, and on what lies behind.
func spoil(l []api.Vec) {
	for i, v := range l[:cap(l)] {
		spoilVector(v)
		l[:cap(l)][i] = vector(mark)
	}
}

// P10.1, P10.2 with R2: what is handed in is neither changed nor kept, what lies behind it is not read.
func TestHandedInStays(t *testing.T) {
	for _, c := range calls() {
		for _, s := range append(handed(), wrong()...) {
			checkStays(t, c, s)
		}
	}
}

func checkStays(t *testing.T, c call, s sample) {
	t.Helper()
	in := guarded(s.l)
	want := copied(c.do(copied(s.l), s.n))
	got := c.do(in.l, s.n)
	spoil(c.do(in.l, s.n))
	if !alikeRows(got, want) {
		t.Errorf("%s of %v hangs on what lies behind, or two calls' answers share memory", c.name, s)
	}
	checkApart(t, c.name, got)
	spoil(got)
	if !in.untouched(s.l) {
		t.Errorf("%s of %v: what is handed in is changed or shared", c.name, s)
	}
}

// checkApart spoils one number, one row behind the other: what is not spoilt yet must stay.
func checkApart(t *testing.T, name string, got []api.Vec) {
	t.Helper()
	want := copied(got)
	for i, v := range got {
		for j := range v {
			scribble(v[j])
			if !alikeVectors(v[j+1:], want[i][j+1:]) {
				t.Errorf("%s: row %d's place %d shares memory with one behind it", name, i, j)
			}
		}
		spoilVector(v)
		if !alikeRows(got[i+1:], want[i+1:]) {
			t.Errorf("%s: row %d shares memory with one behind it", name, i)
		}
	}
}

// P10.2 with R2: one row that stands in the list several times, rows that share places and limbs.
func TestSharedMemory(t *testing.T) {
	mag := []uint32{2, 1, 0}
	v := api.Vec{{Neg: true, Mag: mag}, {Mag: mag[1:]}, {Neg: true, Mag: mag[2:]}, {Mag: mag[:1]}}
	l := []api.Vec{v[:2], v[1:3], v[:2], v[2:], v[1:3]}
	was := guarded(l)
	want := list([]int{1, 0}, []int{0, 1})
	expect(t, l, 2, want)
	checkTurned(t, l, 2)
	for _, c := range calls() {
		got := c.do(l, 2)
		checkApart(t, c.name, got)
		spoil(got)
	}
	expect(t, l, 2, want)
	if !was.untouched(l) || !slices.Equal(mag, []uint32{2, 1, 0}) {
		t.Error("what was handed in is changed:", l)
	}
}
