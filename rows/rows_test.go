package rows

import (
	"math"
	"math/big"
	"math/rand"
	"slices"
	"testing"

	"quincunx/api"
	"quincunx/vec"
	"quincunx/whole"
)

const (
	top  = math.MaxUint32
	mark = 0xdeadbeef
)

// many is a number of n limbs.
func many(n int) api.Int {
	return api.Int{Mag: slices.Repeat([]uint32{top}, n)}
}

// vector is short for a vector of ints.
func vector(l ...int) api.Vec {
	return vec.Of(l)
}

// list is short for rows of ints.
func list(l ...[]int) []api.Vec {
	var out []api.Vec
	for _, row := range l {
		out = append(out, vec.Of(row))
	}
	return out
}

// lone is n noughts, but for x at place i.
func lone(n, i int, x api.Int) api.Vec {
	v := make(api.Vec, n)
	v[i] = x
	return v
}

// noughts are 0 in all its forms.
func noughts() api.Vec {
	var all api.Vec
	for _, mag := range [][]uint32{nil, {}, {0}, {0, 0}, make([]uint32, 100)} {
		all = append(all, api.Int{Mag: mag}, api.Int{Neg: true, Mag: mag})
	}
	return all
}

// padded is v, each place with noughts behind its limbs, and 0 with a sign too.
func padded(v api.Vec) api.Vec {
	var out api.Vec
	for _, a := range v {
		out = append(out, api.Int{Neg: a.Neg || len(a.Mag) == 0, Mag: append(slices.Clone(a.Mag), 0, 0)})
	}
	return out
}

// scaled is v, each place times a number of many limbs.
func scaled(v api.Vec) api.Vec {
	return vec.Times(v, many(7))
}

// each is every row turned by f.
func each(l []api.Vec, f func(api.Vec) api.Vec) []api.Vec {
	var out []api.Vec
	for _, v := range l {
		out = append(out, f(v))
	}
	return out
}

// way is one in which rows may be handed in, and what comes of an answer's rows by it.
type way struct{ in, out func(api.Vec) api.Vec }

// ways keep the rows' order and which are the same.
func ways() []way {
	plain := func(v api.Vec) api.Vec { return v }
	return []way{{plain, plain}, {padded, plain}, {scaled, scaled}, {func(v api.Vec) api.Vec { return padded(scaled(v)) }, scaled}}
}

// alike holds two Ints against each other limb by limb: not only by their values.
func alike(a, b api.Int) bool {
	return a.Neg == b.Neg && slices.Equal(a.Mag, b.Mag)
}

func alikeVectors(v, w api.Vec) bool {
	return slices.EqualFunc(v, w, alike)
}

// alikeRows asks for as many rows, each of as many places, limb by limb.
func alikeRows(a, b []api.Vec) bool {
	return slices.EqualFunc(a, b, alikeVectors)
}

func expect(t *testing.T, got, want []api.Vec, what ...any) {
	t.Helper()
	if !alikeRows(got, want) {
		t.Errorf("got %v, want %v, of %v", got, want, what)
	}
}

func value(a api.Int) *big.Int {
	v := new(big.Int)
	for _, x := range slices.Backward(a.Mag) {
		v.Lsh(v, 32)
		v.Or(v, big.NewInt(int64(x)))
	}
	if a.Neg {
		v.Neg(v)
	}
	return v
}

// number is an Int in its one form, by another way than the program's.
func number(v *big.Int) api.Int {
	a := api.Int{Neg: v.Sign() < 0}
	low := big.NewInt(top)
	for v = new(big.Int).Abs(v); v.Sign() > 0; v.Rsh(v, 32) {
		a.Mag = append(a.Mag, uint32(new(big.Int).And(v, low).Uint64()))
	}
	return a
}

// placeOf is v's value at a place, 0 behind its end.
func placeOf(v api.Vec, i int) *big.Int {
	if i >= len(v) {
		return new(big.Int)
	}
	return value(v[i])
}

// handed are rows as they may be handed in: none, without places, of different lengths, beyond 64 places, with noughts in all their forms, some of many limbs.
func handed() [][]api.Vec {
	odd, huge := many(5), many(40)
	all := [][]api.Vec{
		nil, {}, {nil}, {{}, nil}, list([]int{0}), list([]int{0, 0}, []int{0}), {noughts(), nil, noughts()[3:]}, list([]int{1}), list([]int{-1}), list([]int{1}, []int{-1}),
		list([]int{1, 2}, []int{0, -1}, []int{3}, []int{1, 1, 9}), list([]int{1, 0, 4}, []int{2, 5}), list([]int{2, 4}, []int{3, 1}), list([]int{0, 0, -3}, []int{0, 3}),
		list([]int{1, 0}, []int{1}, []int{1, 0, 0}), list([]int{-1, 2, 0}, []int{1, -2}, []int{0, 0, 0}, []int{-1, 2}), list([]int{math.MinInt, 1}, []int{math.MaxInt, -1}),
		{{odd, whole.Neg(huge)}, {whole.Neg(odd), huge}, {whole.Mul(odd, huge)}, vector(0, 1)}, {{whole.Of(0), whole.Neg(odd)}, {whole.Of(0), odd, whole.Of(0)}, {huge}},
		{lone(70, 66, whole.Of(-2)), lone(70, 66, whole.Of(2)), vector(1), lone(80, 66, whole.Of(2))}, {make(api.Vec, 64), lone(64, 63, whole.Neg(odd)), make(api.Vec, 65)},
	}
	for _, l := range slices.Clone(all) {
		all = append(all, each(l, padded))
	}
	chance := rand.New(rand.NewSource(9))
	for _, n := range []int{2, 3, 5, 8, 40, 70} {
		all = append(all, chosen(chance, n), each(chosen(chance, n), scaled))
	}
	return all
}

// chosen are n rows of up to 3 places from -1 to 1, so that many are the same.
func chosen(chance *rand.Rand, n int) []api.Vec {
	var l []api.Vec
	for range n {
		v := make(api.Vec, chance.Intn(4))
		for i := range v {
			v[i] = whole.Of(chance.Intn(3) - 1)
		}
		l = append(l, v)
	}
	return l
}

// P9.1: no rows, rows without places, n about 0, 1 and 64.
func TestForm(t *testing.T) {
	wide := func(n int) []api.Vec { return []api.Vec{make(api.Vec, n), make(api.Vec, n)} }
	for _, c := range []struct {
		l    []api.Vec
		n    int
		want bool
	}{
		{nil, 1, true}, {[]api.Vec{}, 12, true}, {nil, 64, true}, {nil, 0, false}, {nil, 65, false}, {nil, -1, false}, {nil, math.MinInt, false}, {nil, math.MaxInt, false},
		{[]api.Vec{nil}, 0, false}, {[]api.Vec{{}, nil}, 0, false}, {[]api.Vec{nil}, 1, false}, {[]api.Vec{nil}, -1, false},
		{wide(1), 1, true}, {wide(1), 2, false}, {wide(2), 1, false}, {wide(63), 63, true}, {wide(64), 64, true}, {wide(65), 65, false}, {wide(65), 64, false}, {wide(64), 65, false}, {wide(64), 63, false},
		{list([]int{1, 2}, []int{0, 0}), 2, true}, {list([]int{1, 2}, []int{0}), 2, false}, {list([]int{1, 2}, []int{0}), 1, false}, {list([]int{1}, []int{0, 2}), 2, false},
		{list([]int{1, 2}, []int{3, 4}, []int{5, 6, 0}), 2, false}, {list([]int{1, 2}, nil), 2, false}, {list(nil, []int{1, 2}), 2, false},
		{[]api.Vec{noughts(), padded(noughts())}, 10, true}, {[]api.Vec{{many(30)}}, 1, true},
		// Places behind the last one that is not 0 count here.
		{list([]int{1, 0}), 1, false},
	} {
		if Form(c.l, c.n) != c.want {
			t.Errorf("Form(%v, %d), want %v", c.l, c.n, c.want)
		}
	}
	for n := -3; n < 70; n++ {
		if got := Form(wide(max(n, 0)), n); got != (n >= 1 && n <= 64) {
			t.Errorf("rows of %d places: %v", n, got)
		}
	}
}

// P9.1: no rows, rows without places, a vector that is shorter, longer, without places.
func TestMul(t *testing.T) {
	for _, c := range []struct {
		l       [][]int
		v, want []int
	}{
		{nil, nil, nil}, {nil, []int{1, 2}, nil}, {[][]int{{}, {}}, []int{1}, []int{0, 0}}, {[][]int{{1, 2}, {3}}, nil, []int{0, 0}},
		{[][]int{{1, 2}, {3, 4}}, []int{5, 6}, []int{17, 39}}, {[][]int{{1, 2}, {3, 4}}, []int{5}, []int{5, 15}}, {[][]int{{1, 2}, {3, 4}}, []int{5, 6, 7}, []int{17, 39}},
		{[][]int{{1, 0, 4}, {2, 5}}, []int{1, 2, 3}, []int{13, 12}}, {[][]int{{1, -1}, {-2, 3}, {0, 0}, {7}}, []int{-4, -4}, []int{0, -4, 0, -28}}, {[][]int{{0, 1}}, []int{9}, []int{0}},
	} {
		for _, w := range ways() {
			l, v := each(list(c.l...), w.in), padded(vector(c.v...))
			expect(t, []api.Vec{Mul(l, v)}, []api.Vec{w.out(vector(c.want...))}, "Mul", l, v)
		}
	}
	square := whole.Mul(many(9), many(9))
	expect(t, []api.Vec{Mul([]api.Vec{{many(9), many(9)}, {whole.Neg(many(9))}}, api.Vec{many(9), whole.Of(-1)})},
		[]api.Vec{{whole.Sub(square, many(9)), whole.Neg(square)}}, "Mul of many limbs")
}

// P9.1: rows of a that are shorter and longer than b has rows, b's rows of different lengths, no rows in either.
func TestProduct(t *testing.T) {
	for _, c := range []struct{ a, b, want [][]int }{
		{nil, nil, nil}, {nil, [][]int{{1, 2}}, nil}, {[][]int{{1, 2}, {3}}, nil, [][]int{{}, {}}}, {[][]int{{1, 2}, {}}, [][]int{{}, {}}, [][]int{{}, {}}},
		{[][]int{{}, {}}, [][]int{{1, 2}, {3}}, [][]int{{0, 0}, {0, 0}}}, {[][]int{{0}, {0, 0, 0}}, [][]int{{1}, {3, 4}}, [][]int{{0, 0}, {0, 0}}},
		{[][]int{{1, 2}, {0, -1}, {3}, {1, 1, 9}}, [][]int{{1, 0, 4}, {2, 5}}, [][]int{{5, 10, 4}, {-2, -5, 0}, {3, 0, 12}, {3, 5, 4}}},
		{[][]int{{1, 2}, {3, 4}}, [][]int{{5, 6}, {7, 8}}, [][]int{{19, 22}, {43, 50}}}, {[][]int{{5, 6}, {7, 8}}, [][]int{{1, 2}, {3, 4}}, [][]int{{23, 34}, {31, 46}}},
		{[][]int{{1}}, [][]int{{1, 2}, {3, 4, 5, 6}}, [][]int{{1, 2, 0, 0}}}, {[][]int{{0, 0, 7}}, [][]int{{1}, {2, 3}}, [][]int{{0, 0}}},
		{[][]int{{0, 1}, {1, 0}}, [][]int{{1, 2}, {3, 4}}, [][]int{{3, 4}, {1, 2}}}, {[][]int{{1, 1}}, [][]int{{1, -2}, {-1, 2}}, [][]int{{0, 0}}},
		{[][]int{{2, -3}}, [][]int{{0, 0, 0}, {1}}, [][]int{{-3, 0, 0}}},
	} {
		for _, w := range ways() {
			a, b, want := list(c.a...), list(c.b...), each(list(c.want...), w.out)
			expect(t, Product(each(a, padded), each(b, w.in)), want, "Product", a, b)
			expect(t, Product(each(a, w.in), each(b, padded)), want, "Product", a, b)
		}
	}
	// More places than vec.Zero tells, in b's rows and as b's rows.
	expect(t, Product(list([]int{3}, nil), []api.Vec{lone(70, 69, many(3))}), []api.Vec{vec.Times(lone(70, 69, many(3)), whole.Of(3)), make(api.Vec, 70)}, "Product beyond 64 places")
	long := slices.Repeat(list([]int{1, -1}), 100)
	expect(t, Product([]api.Vec{lone(100, 99, many(2)), lone(101, 100, many(2))}, long), []api.Vec{{many(2), whole.Neg(many(2))}, make(api.Vec, 2)}, "Product beyond 64 rows")
}

// P9.1: fewer rows than there are places, more, 0, below 0, beyond 64.
func TestTurn(t *testing.T) {
	for _, c := range []struct {
		l    [][]int
		n    int
		want [][]int
	}{
		{nil, 0, nil}, {nil, -1, nil}, {nil, 2, [][]int{{}, {}}}, {[][]int{{}, {}}, 1, [][]int{{0, 0}}}, {[][]int{{1, 2}}, 0, nil}, {[][]int{{1, 2}}, -1, nil}, {[][]int{{1, 2}}, math.MinInt, nil},
		{[][]int{{1, 2}}, 1, [][]int{{1}}}, {[][]int{{1, 2}}, 2, [][]int{{1}, {2}}}, {[][]int{{1, 2}}, 3, [][]int{{1}, {2}, {0}}},
		{[][]int{{1, 0, 4}, {2, 5}}, 4, [][]int{{1, 2}, {0, 5}, {4, 0}, {0, 0}}}, {[][]int{{1, 0, 4}, {2, 5}}, 2, [][]int{{1, 2}, {0, 5}}},
		{[][]int{{-1}, {}, {-2, -3}}, 2, [][]int{{-1, 0, -2}, {0, 0, -3}}}, {[][]int{{1, 2}, {3, 4}, {5, 6}}, 2, [][]int{{1, 3, 5}, {2, 4, 6}}},
	} {
		for _, w := range ways() {
			l := each(list(c.l...), w.in)
			expect(t, Turn(l, c.n), each(list(c.want...), w.out), "Turn", l, c.n)
		}
	}
	wide := []api.Vec{lone(70, 63, many(4)), lone(70, 64, many(4)), lone(64, 0, many(4))}
	for _, n := range []int{63, 64, 65, 70, 1 << 32, math.MaxInt} {
		want := make([]api.Vec, min(n, 64))
		for i := range want {
			want[i] = make(api.Vec, 3)
		}
		want[0][2] = many(4)
		if n > 63 {
			want[63][0] = many(4)
		}
		expect(t, Turn(wide, n), want, "Turn", n)
	}
	// 64 bounds the rows that are told, not their places.
	expect(t, Turn(slices.Repeat(list([]int{5}), 90), 1), list(slices.Repeat([]int{5}, 90)), "Turn of 90 rows")
	expect(t, Turn([]api.Vec{noughts(), {many(9)}}, 10), append([]api.Vec{{{}, many(9)}}, slices.Repeat([]api.Vec{{{}, {}}}, 9)...), "Turn of noughts")
}

// P9.2: nought, the first place that is not 0 below 0, above 0, and not the first one.
func TestNormal(t *testing.T) {
	for _, c := range [][2][]int{
		{nil, nil}, {{0}, {0}}, {{0, 0}, {0, 0}}, {{5}, {5}}, {{-5}, {5}}, {{3, -1}, {3, -1}}, {{-3, 1}, {3, -1}}, {{-3, -1, 0}, {3, 1, 0}}, {{0, -1, 2}, {0, 1, -2}}, {{0, 1, -2}, {0, 1, -2}},
		{{0, 0, -7}, {0, 0, 7}}, {{0, 0, 7, -8}, {0, 0, 7, -8}}, {{-1, 2, -3, 0, 0}, {1, -2, 3, 0, 0}}, {{1, -9, -9}, {1, -9, -9}}, {{math.MaxInt, -1}, {math.MaxInt, -1}},
	} {
		for _, w := range ways() {
			v := w.in(vector(c[0]...))
			expect(t, []api.Vec{Normal(v)}, []api.Vec{w.out(vector(c[1]...))}, "Normal", v)
		}
	}
	// The least int has no counterpart above 0 among the ints.
	expect(t, []api.Vec{Normal(vector(math.MinInt, 1))}, []api.Vec{{{Mag: []uint32{0, 1 << 31}}, whole.Of(-1)}}, "Normal of the least int")
	expect(t, []api.Vec{Normal(noughts())}, []api.Vec{make(api.Vec, 10)}, "Normal of noughts")
	// Noughts with a sign ahead are no places below 0.
	expect(t, []api.Vec{Normal(append(noughts(), many(2), whole.Of(-1)))}, []api.Vec{append(make(api.Vec, 10), many(2), whole.Of(-1))}, "Normal of noughts ahead")
	for i := range 90 {
		for _, x := range []api.Int{whole.Of(1), many(12)} {
			want := []api.Vec{lone(90, i, x)}
			expect(t, []api.Vec{Normal(lone(90, i, x))}, want, "Normal beyond 64 places", i)
			expect(t, []api.Vec{Normal(lone(90, i, whole.Neg(x)))}, want, "Normal beyond 64 places", i)
		}
	}
}

// P9.2: several that are the same, of different lengths too, of which the first one is told.
func TestSort(t *testing.T) {
	for _, c := range []struct{ l, want [][]int }{
		{nil, nil}, {[][]int{{}}, [][]int{{}}}, {[][]int{{}, {0}, {}}, [][]int{{}}}, {[][]int{{0, 0}, {}, {0}}, [][]int{{0, 0}}}, {[][]int{{3}}, [][]int{{3}}},
		{[][]int{{2}, {1}, {3}}, [][]int{{1}, {2}, {3}}}, {[][]int{{2}, {2}, {2}}, [][]int{{2}}}, {[][]int{{1}, {-1}, {0}}, [][]int{{-1}, {0}, {1}}},
		{[][]int{{1, -2}, {-1, 2}, {0, 0}, {1}, {1, 0}, {0, -3}, {1, -2, 0}}, [][]int{{-1, 2}, {0, -3}, {0, 0}, {1, -2}, {1}}},
		{[][]int{{1, 0}, {1}, {1, 0, 0}}, [][]int{{1, 0}}}, {[][]int{{1}, {1, 0}, {1, 0, 0}}, [][]int{{1}}}, {[][]int{{2}, {1, 0, 0}, {2, 0}, {1}, {1, 0}}, [][]int{{1, 0, 0}, {2}}},
		{[][]int{{0, 1}, {0, -1}, {0}, {}}, [][]int{{0, -1}, {0}, {0, 1}}}, {[][]int{{1, 2}, {1}, {1, -2}}, [][]int{{1, -2}, {1}, {1, 2}}}, {[][]int{{2, 1}, {1, 2}, {2, 0}, {1, 3}}, [][]int{{1, 2}, {1, 3}, {2, 0}, {2, 1}}},
	} {
		for _, w := range ways() {
			l := each(list(c.l...), w.in)
			expect(t, Sort(l), each(list(c.want...), w.out), "Sort", l)
		}
	}
	more := whole.Add(many(9), whole.Of(1))
	expect(t, Sort([]api.Vec{{more}, {many(9), more}, {whole.Neg(many(9))}, {many(9)}, {whole.Neg(more)}, padded(api.Vec{more})}),
		[]api.Vec{{whole.Neg(more)}, {whole.Neg(many(9))}, {many(9)}, {many(9), more}, {more}}, "Sort of many limbs")
	expect(t, Sort([]api.Vec{noughts(), nil}), []api.Vec{make(api.Vec, 10)}, "Sort of noughts")
	expect(t, Sort([]api.Vec{lone(80, 70, whole.Of(1)), lone(90, 70, whole.Of(-1)), lone(71, 70, whole.Of(1))}), []api.Vec{lone(90, 70, whole.Of(-1)), lone(80, 70, whole.Of(1))}, "Sort beyond 64 places")
}

// P9.2: so many that are the same that a sort which does not keep their order would tell another one than the first.
func TestSortTellsTheFirst(t *testing.T) {
	for n := 1; n <= 200; n += 7 {
		var l []api.Vec
		for i := range n {
			// Any 7 that follow one another are different; those before and behind them are the same but for noughts behind, now more, now fewer.
			l = append(l, slices.Concat(vector(i*5%7), make(api.Vec, (i/7*3)%11)))
		}
		var want []api.Vec
		for x := range 7 {
			if i := slices.IndexFunc(l, func(v api.Vec) bool { return vec.Same(v, vector(x)) }); i >= 0 {
				want = append(want, l[i])
			}
		}
		expect(t, Sort(l), want, "Sort of", n)
	}
}

// P9.2: noughts, a row and its negative, of different lengths, of which the first one is told.
func TestHalfAndBoth(t *testing.T) {
	for _, c := range []struct{ l, half, both [][]int }{
		{nil, nil, nil}, {[][]int{{}}, nil, nil}, {[][]int{{0}, {}, {0, 0}}, nil, nil}, {[][]int{{4}}, [][]int{{4}}, [][]int{{-4}, {4}}}, {[][]int{{-4}}, [][]int{{4}}, [][]int{{-4}, {4}}},
		{[][]int{{1, -2}, {-1, 2}}, [][]int{{1, -2}}, [][]int{{-1, 2}, {1, -2}}}, {[][]int{{-1, 2}, {1, -2}, {0, 0}}, [][]int{{1, -2}}, [][]int{{-1, 2}, {1, -2}}},
		{[][]int{{-1, 2, 0}, {1, -2}}, [][]int{{1, -2, 0}}, [][]int{{-1, 2, 0}, {1, -2, 0}}}, {[][]int{{1, -2}, {-1, 2, 0}}, [][]int{{1, -2}}, [][]int{{-1, 2}, {1, -2}}},
		{
			[][]int{{1, -2}, {-1, 2}, {0, 0}, {1}, {1, 0}, {0, -3}, {1, -2, 0}},
			[][]int{{0, 3}, {1, -2}, {1}},
			[][]int{{-1}, {-1, 2}, {0, -3}, {0, 3}, {1, -2}, {1}},
		},
		{[][]int{{-2, 1}, {-1, 5}, {-1, -5}}, [][]int{{1, -5}, {1, 5}, {2, -1}}, [][]int{{-2, 1}, {-1, -5}, {-1, 5}, {1, -5}, {1, 5}, {2, -1}}},
		{[][]int{{0, 0, -1}, {0, -1}, {-1}}, [][]int{{0, 0, 1}, {0, 1}, {1}}, [][]int{{-1}, {0, -1}, {0, 0, -1}, {0, 0, 1}, {0, 1}, {1}}},
	} {
		for _, w := range ways() {
			l := each(list(c.l...), w.in)
			expect(t, Half(l), each(list(c.half...), w.out), "Half", l)
			expect(t, Both(l), each(list(c.both...), w.out), "Both", l)
		}
	}
	expect(t, Half([]api.Vec{noughts(), padded(noughts())}), nil, "Half of noughts")
	expect(t, Both([]api.Vec{noughts(), padded(noughts())}), nil, "Both of noughts")
	least := api.Int{Mag: []uint32{0, 1 << 31}}
	expect(t, Half(list([]int{math.MinInt})), []api.Vec{{least}}, "Half of the least int")
	expect(t, Both(list([]int{math.MinInt})), []api.Vec{{whole.Neg(least)}, {least}}, "Both of the least int")
	expect(t, Both([]api.Vec{lone(80, 70, whole.Of(-1)), lone(90, 70, whole.Of(1))}), []api.Vec{lone(80, 70, whole.Of(-1)), lone(80, 70, whole.Of(1))}, "Both beyond 64 places")
}

// P9.2: another order, more rows on either side, rows that are the same by noughts behind alone.
func TestSame(t *testing.T) {
	for _, c := range []struct {
		a, b [][]int
		want bool
	}{
		{nil, nil, true}, {nil, [][]int{{}}, false}, {[][]int{{}}, [][]int{{}}, true}, {[][]int{{}}, [][]int{{0, 0}}, true}, {[][]int{{}, {}}, [][]int{{}}, false}, {[][]int{{0}}, nil, false},
		{[][]int{{1}}, [][]int{{1, 0}}, true}, {[][]int{{1, 0, 0}}, [][]int{{1}}, true}, {[][]int{{1}}, [][]int{{-1}}, false}, {[][]int{{1}}, [][]int{{0, 1}}, false}, {[][]int{{1}}, [][]int{{1, 1}}, false},
		{[][]int{{1}, {2}}, [][]int{{1}, {2}}, true}, {[][]int{{1}, {2}}, [][]int{{2}, {1}}, false}, {[][]int{{1}, {2}}, [][]int{{1}, {2}, {3}}, false}, {[][]int{{1}, {2}, {3}}, [][]int{{1}, {2}}, false},
		{[][]int{{1}, {2}, {0}}, [][]int{{1}, {2}}, false}, {[][]int{{1}, {1}}, [][]int{{1}}, false}, {[][]int{{1, 2}, {3, 4}}, [][]int{{1, 2}, {3, 5}}, false}, {[][]int{{0, 2}, {3, 4}}, [][]int{{1, 2}, {3, 4}}, false},
		// The same numbers, but not by rows.
		{[][]int{{1, 2}, {3}}, [][]int{{1}, {2, 3}}, false},
	} {
		for _, w := range ways() {
			a, b := each(list(c.a...), w.in), each(list(c.b...), w.out)
			if Same(a, b) != c.want || Same(b, a) != c.want {
				t.Errorf("Same(%v, %v), want %v", a, b, c.want)
			}
		}
	}
	if !Same([]api.Vec{noughts()}, []api.Vec{nil}) || Same([]api.Vec{{many(9)}}, []api.Vec{{whole.Add(many(9), whole.Of(1))}}) {
		t.Error("noughts, many limbs")
	}
}

// sideOf is the document's order of vectors by another way than the program's.
func sideOf(v, w api.Vec) int {
	for i := range max(len(v), len(w)) {
		if side := placeOf(v, i).Cmp(placeOf(w, i)); side != 0 {
			return side
		}
	}
	return 0
}

// inOneForm is every row with each number made anew by another way than the program's, turned if it is asked for.
func inOneForm(l []api.Vec, turned func(v api.Vec) bool) []api.Vec {
	return each(l, func(v api.Vec) api.Vec {
		turn, out := turned(v), make(api.Vec, len(v))
		for i := range v {
			x := value(v[i])
			if turn {
				x.Neg(x)
			}
			out[i] = number(x)
		}
		return out
	})
}

// inserted is Sort by another way than the program's: each row that is not there yet goes ahead of the first greater one.
func inserted(l []api.Vec) []api.Vec {
	var out []api.Vec
	for _, v := range inOneForm(l, func(api.Vec) bool { return false }) {
		i := 0
		for i < len(out) && sideOf(out[i], v) < 0 {
			i++
		}
		if i == len(out) || sideOf(out[i], v) > 0 {
			out = slices.Insert(out, i, v)
		}
	}
	return out
}

// P9.2: held against the document's words by another way.
func TestSortedOfMany(t *testing.T) {
	isNegative := func(v api.Vec) bool { return sideOf(v, nil) < 0 }
	for _, l := range handed() {
		expect(t, Sort(l), inserted(l), "Sort", l)
		normal := inOneForm(l, isNegative)
		for i, v := range l {
			expect(t, []api.Vec{Normal(v)}, normal[i:i+1], "Normal", v)
		}
		normal = slices.DeleteFunc(normal, func(v api.Vec) bool { return sideOf(v, nil) == 0 })
		half := inserted(normal)
		expect(t, Half(l), half, "Half", l)
		expect(t, Both(l), inserted(slices.Concat(half, inOneForm(half, func(api.Vec) bool { return true }))), "Both", l)
	}
}

// P9.1: held against the document's words by another way.
func TestProductsOfMany(t *testing.T) {
	all := handed()
	for _, a := range all {
		for _, n := range []int{-1, 0, 1, 2, 3, 10, 64, 65, 80} {
			checkTurn(t, a, n)
		}
		for _, b := range all {
			checkProduct(t, a, b)
		}
	}
}

func checkTurn(t *testing.T, l []api.Vec, n int) {
	t.Helper()
	var want []api.Vec
	for i := range min(max(n, 0), 64) {
		var v api.Vec
		for _, row := range l {
			v = append(v, number(placeOf(row, i)))
		}
		want = append(want, v)
	}
	expect(t, Turn(l, n), want, "Turn", l, n)
}

func checkProduct(t *testing.T, a, b []api.Vec) {
	t.Helper()
	width := 0
	for _, row := range b {
		width = max(width, len(row))
	}
	var want []api.Vec
	for _, row := range a {
		v := make(api.Vec, width)
		for j := range v {
			sum := new(big.Int)
			for k := range b {
				sum.Add(sum, new(big.Int).Mul(placeOf(row, k), placeOf(b[k], j)))
			}
			v[j] = number(sum)
		}
		want = append(want, v)
	}
	expect(t, Product(a, b), want, "Product", a, b)
	if len(b) == 0 {
		return
	}
	// Dot of rows with b's first one, place by place.
	var dots api.Vec
	for _, row := range a {
		sum := new(big.Int)
		for k := range row {
			sum.Add(sum, new(big.Int).Mul(value(row[k]), placeOf(b[0], k)))
		}
		dots = append(dots, number(sum))
	}
	expect(t, []api.Vec{Mul(a, b[0])}, []api.Vec{dots}, "Mul", a, b[0])
}

// P9.3: Sort twice is once; so are Half and Both; Half of Both is Half; Both is Half's rows and their negatives.
func TestTwiceIsOnce(t *testing.T) {
	for _, l := range handed() {
		sorted, half, both := Sort(l), Half(l), Both(l)
		expect(t, Sort(sorted), sorted, "Sort twice", l)
		expect(t, Half(half), half, "Half twice", l)
		expect(t, Both(both), both, "Both twice", l)
		expect(t, Half(both), half, "Half of Both", l)
		expect(t, Both(half), both, "Both of Half", l)
		expect(t, Sort(both), both, "Sort of Both", l)
		if len(both) != 2*len(half) {
			t.Errorf("Both(%v) has %d rows, Half %d", l, len(both), len(half))
		}
		for _, v := range l {
			expect(t, []api.Vec{Normal(Normal(v))}, []api.Vec{Normal(v)}, "Normal twice", v)
			expect(t, []api.Vec{Normal(vec.Neg(v))}, []api.Vec{Normal(v)}, "Normal of the negative", v)
		}
	}
}

// P9.3: whatever the order in which they are handed in, the same rows are told.
func TestAnyOrder(t *testing.T) {
	chance := rand.New(rand.NewSource(99))
	for _, l := range handed() {
		mixed := slices.Clone(l)
		chance.Shuffle(len(mixed), func(i, j int) { mixed[i], mixed[j] = mixed[j], mixed[i] })
		if !Same(Sort(mixed), Sort(l)) || !Same(Half(mixed), Half(l)) || !Same(Both(mixed), Both(l)) {
			t.Errorf("%v and %v", l, mixed)
		}
	}
}

// P9.3: Turn twice, of rows that have Form, is as it was; of more than 64 rows, which Turn does not tell, the first 64.
func TestTurnTwice(t *testing.T) {
	chance := rand.New(rand.NewSource(999))
	for _, high := range []int{0, 1, 2, 5, 63, 64, 65, 100} {
		for _, wide := range []int{1, 2, 3, 12, 63, 64} {
			var l []api.Vec
			for range high {
				v := make(api.Vec, wide)
				for i := range v {
					v[i] = whole.Mul(whole.Of(chance.Intn(9)-4), many(chance.Intn(3)))
				}
				l = append(l, v)
			}
			if !Form(l, wide) {
				t.Fatalf("%d rows of %d places have no Form", high, wide)
			}
			expect(t, Turn(Turn(l, wide), high), l[:min(high, 64)], "Turn twice")
			expect(t, Turn(Turn(each(l, padded), wide), high), l[:min(high, 64)], "Turn twice")
		}
	}
}

// P9.1: Product by the unit rows is as it was, and may be put together in any way; Mul is Product with what is turned.
func TestProductsGoTogether(t *testing.T) {
	chance := rand.New(rand.NewSource(9999))
	square := func(n int) []api.Vec {
		var l []api.Vec
		for range n {
			v := make(api.Vec, n)
			for i := range v {
				v[i] = whole.Mul(whole.Of(chance.Intn(9)-4), many(chance.Intn(4)))
			}
			l = append(l, v)
		}
		return l
	}
	for _, n := range []int{1, 2, 3, 7} {
		a, b, c := square(n), square(n), square(n)
		var unit []api.Vec
		for i := range n {
			unit = append(unit, lone(n, i, whole.Of(1)))
		}
		expect(t, Product(unit, a), a, "unit rows ahead")
		expect(t, Product(a, unit), a, "unit rows behind")
		expect(t, Product(Product(a, b), c), Product(a, Product(b, c)), "three")
		expect(t, Turn(Product(a, b), n), Product(Turn(b, n), Turn(a, n)), "turned")
		expect(t, []api.Vec{Mul(a, b[0])}, Turn(Product(a, Turn(b[:1], n)), 1), "Mul")
	}
}

// The document's example.
func TestExample(t *testing.T) {
	expect(t, Half(list([]int{-1, 2}, []int{1, -2}, []int{0, 0})), list([]int{1, -2}))
}

// call is one call by which rows may be changed, kept or told.
type call struct {
	name string
	do   func(a, b []api.Vec) []api.Vec
}

// calls tells small answers as rows too, so that all are held against others as such.
func calls() []call {
	truth := map[bool]int{true: 1}
	first := func(l []api.Vec) api.Vec {
		if len(l) == 0 {
			return nil
		}
		return l[0]
	}
	return []call{
		{"Form", func(a, b []api.Vec) []api.Vec { return list([]int{truth[Form(a, len(first(a)))]}) }},
		{"Mul", func(a, b []api.Vec) []api.Vec { return []api.Vec{Mul(a, first(b))} }},
		{"Product", Product},
		{"Turn", func(a, b []api.Vec) []api.Vec { return Turn(a, 4) }},
		{"Normal", func(a, b []api.Vec) []api.Vec { return []api.Vec{Normal(first(a))} }},
		{"Sort", func(a, b []api.Vec) []api.Vec { return Sort(a) }},
		{"Half", func(a, b []api.Vec) []api.Vec { return Half(a) }},
		{"Both", func(a, b []api.Vec) []api.Vec { return Both(a) }},
		{"Same", func(a, b []api.Vec) []api.Vec { return list([]int{truth[Same(a, b)]}) }},
	}
}

// guard is rows with marks behind them, behind each one's places and behind each place's limbs; memory is all of the rows, places and limbs.
type guard struct {
	l, memory []api.Vec
	places    []api.Vec
	limbs     [][]uint32
}

func guarded(l []api.Vec) guard {
	var g guard
	for _, v := range l {
		var places api.Vec
		for _, a := range v {
			limbs := append(slices.Clone(a.Mag), mark, mark, mark)
			g.limbs = append(g.limbs, limbs)
			places = append(places, api.Int{Neg: a.Neg, Mag: limbs[:len(a.Mag)]})
		}
		places = append(places, whole.Of(mark), whole.Of(-1))
		g.places = append(g.places, places)
		g.memory = append(g.memory, places[:len(v)])
	}
	g.memory = append(g.memory, vector(mark), vector(-1, -2))
	g.l = g.memory[:len(l)]
	return g
}

// untouched tells whether all of the memory is as it is made of l.
func (g guard) untouched(l []api.Vec) bool {
	fresh := guarded(l)
	return alikeRows(g.memory, fresh.memory) && alikeRows(g.places, fresh.places) && slices.EqualFunc(g.limbs, fresh.limbs, slices.Equal)
}

// copied is l in memory of its own.
func copied(l []api.Vec) []api.Vec {
	return each(l, func(v api.Vec) api.Vec {
		var out api.Vec
		for _, a := range v {
			out = append(out, api.Int{Neg: a.Neg, Mag: slices.Clip(slices.Clone(a.Mag))})
		}
		return out
	})
}

// scribble spoils an Int's limbs, and what lies behind them.
func scribble(a api.Int) {
	for i := range a.Mag[:cap(a.Mag)] {
		a.Mag[:cap(a.Mag)][i] = mark + 1
	}
}

// spoilVector scribbles on a vector's places, and on what lies behind.
func spoilVector(v api.Vec) {
	for i, a := range v[:cap(v)] {
		scribble(a)
		v[:cap(v)][i] = whole.Of(mark)
	}
}

// spoil scribbles on rows, and on what lies behind.
func spoil(l []api.Vec) {
	for i, v := range l[:cap(l)] {
		spoilVector(v)
		l[:cap(l)][i] = vector(mark)
	}
}

// P9.1, P9.2 with R2.
func TestHandedInStays(t *testing.T) {
	var some [][]api.Vec
	for i, l := range handed() {
		if i%2 == 0 || len(l) > 4 {
			some = append(some, l)
		}
	}
	for _, c := range calls() {
		for _, a := range some {
			for _, b := range some {
				checkStays(t, c, a, b)
			}
		}
	}
}

func checkStays(t *testing.T, c call, a, b []api.Vec) {
	t.Helper()
	inA, inB := guarded(a), guarded(b)
	want := copied(c.do(copied(a), copied(b)))
	got := c.do(inA.l, inB.l)
	spoil(c.do(inA.l, inB.l))
	if !alikeRows(got, want) {
		t.Errorf("%s of %v, %v hangs on what lies behind, or two calls' answers share memory", c.name, a, b)
	}
	checkApart(t, c.name, got)
	spoil(got)
	if !inA.untouched(a) || !inB.untouched(b) {
		t.Errorf("%s of %v, %v: what is handed in is changed or shared", c.name, a, b)
	}
}

// checkApart spoils one number, one row behind the other: what is not spoilt yet must stay.
func checkApart(t *testing.T, name string, got []api.Vec) {
	t.Helper()
	want := copied(got)
	for i, v := range got {
		for j := range v {
			scribble(v[j])
			if !alikeVectors(v[j+1:], want[i][j+1:]) {
				t.Errorf("%s: row %d's place %d shares memory with one behind it", name, i, j)
			}
		}
		spoilVector(v)
		if !alikeRows(got[i+1:], want[i+1:]) {
			t.Errorf("%s: row %d shares memory with one behind it", name, i)
		}
	}
}

// P9.1, P9.2 with R2: one list handed in twice, one row that stands in it several times, rows that share places and limbs.
func TestSharedMemory(t *testing.T) {
	mag := []uint32{2, 1, 0}
	v := api.Vec{{Neg: true, Mag: mag}, {Mag: mag[1:]}, {Neg: true, Mag: mag[2:]}}
	l := []api.Vec{v, v, v[1:], v[:1]}
	was := guarded(l)
	high := 1<<32 + 2
	square := whole.Mul(whole.Of(high), whole.Of(high))
	twice := api.Vec{whole.Sub(square, whole.Of(high)), whole.Of(1 - high), {}}
	expect(t, Product(l, l), []api.Vec{twice, twice, vector(-high, 1, 0), {square, whole.Of(-high), {}}}, "Product")
	more := whole.Add(square, whole.Of(1))
	expect(t, []api.Vec{Mul(l, v)}, []api.Vec{{more, more, whole.Of(-high), square}}, "Mul")
	expect(t, Sort(l), list([]int{-high}, []int{-high, 1, 0}, []int{1, 0}), "Sort")
	expect(t, Half(l), list([]int{1, 0}, []int{high, -1, 0}, []int{high}), "Half")
	expect(t, Both(l), list([]int{-high}, []int{-high, 1, 0}, []int{-1, 0}, []int{1, 0}, []int{high, -1, 0}, []int{high}), "Both")
	expect(t, Turn(l, 3), list([]int{-high, -high, 1, -high}, []int{1, 1, 0, 0}, []int{0, 0, 0, 0}), "Turn")
	for _, c := range calls() {
		got := c.do(l, l)
		checkApart(t, c.name, got)
		spoil(got)
	}
	if !Same(l, l) || !was.untouched(l) || !slices.Equal(mag, []uint32{2, 1, 0}) {
		t.Error("what was handed in is changed:", l)
	}
}
