package order

import (
	"math"
	"math/big"
	"math/rand"
	"slices"
	"testing"

	"quincunx/api"
	"quincunx/hnf"
	"quincunx/shade"
	"quincunx/vec"
	"quincunx/whole"
)

const (
	top  = math.MaxUint32
	mark = 0xdeadbeef
)

// many is a number of n limbs.
func many(n int) api.Int {
	return api.Int{Mag: slices.Repeat([]uint32{top}, n)}
}

// vector is short for a vector of ints.
func vector(l ...int) api.Vec {
	return vec.Of(l)
}

// list is short for rows of ints.
func list(l ...[]int) []api.Vec {
	var out []api.Vec
	for _, row := range l {
		out = append(out, vec.Of(row))
	}
	return out
}

// lone is n noughts, but for x at place i.
func lone(n, i int, x api.Int) api.Vec {
	v := make(api.Vec, n)
	v[i] = x
	return v
}

// units are n unit rows.
func units(n int) []api.Vec {
	var out []api.Vec
	for i := range n {
		out = append(out, lone(n, i, whole.Of(1)))
	}
	return out
}

// noughts are 0 in all its forms.
func noughts() api.Vec {
	var all api.Vec
	for _, mag := range [][]uint32{nil, {}, {0}, {0, 0}, make([]uint32, 100)} {
		all = append(all, api.Int{Mag: mag}, api.Int{Neg: true, Mag: mag})
	}
	return all
}

// padded is v, each place with noughts behind its limbs, and 0 with a sign too.
func padded(v api.Vec) api.Vec {
	var out api.Vec
	for _, a := range v {
		out = append(out, api.Int{Neg: a.Neg || len(a.Mag) == 0, Mag: append(slices.Clone(a.Mag), 0, 0)})
	}
	return out
}

// plain is v in its one form, by another way than the program's.
func plain(v api.Vec) api.Vec {
	out := api.Vec{}
	for _, a := range v {
		out = append(out, number(value(a)))
	}
	return out
}

// each is every row turned by f.
func each(l []api.Vec, f func(api.Vec) api.Vec) []api.Vec {
	var out []api.Vec
	for _, v := range l {
		out = append(out, f(v))
	}
	return out
}

// alike holds two Ints against each other limb by limb: not only by their values.
func alike(a, b api.Int) bool {
	return a.Neg == b.Neg && slices.Equal(a.Mag, b.Mag)
}

// alikeVectors asks for as many places, limb by limb.
func alikeVectors(v, w api.Vec) bool {
	return slices.EqualFunc(v, w, alike)
}

// alikeRows asks for as many rows, each of as many places, limb by limb.
func alikeRows(a, b []api.Vec) bool {
	return slices.EqualFunc(a, b, alikeVectors)
}

func value(a api.Int) *big.Int {
	v := new(big.Int)
	for _, x := range slices.Backward(a.Mag) {
		v.Lsh(v, 32)
		v.Or(v, big.NewInt(int64(x)))
	}
	if a.Neg {
		v.Neg(v)
	}
	return v
}

// number is an Int in its one form, by another way than the program's.
func number(v *big.Int) api.Int {
	a := api.Int{Neg: v.Sign() < 0}
	low := big.NewInt(top)
	for v = new(big.Int).Abs(v); v.Sign() > 0; v.Rsh(v, 32) {
		a.Mag = append(a.Mag, uint32(new(big.Int).And(v, low).Uint64()))
	}
	return a
}

// rising is the numbers from 0 to n less 1.
func rising(n int) []int {
	p := []int{}
	for i := range n {
		p = append(p, i)
	}
	return p
}

// falling is the numbers from n less 1 to 0.
func falling(n int) []int {
	p := rising(n)
	slices.Reverse(p)
	return p
}

// orders are orders of 0 to 64 places, the first ones of all their kinds.
func orders() [][]int {
	all := [][]int{nil, {}, {0}, {0, 1}, {1, 0}, {0, 1, 2}, {0, 2, 1}, {1, 0, 2}, {1, 2, 0}, {2, 0, 1}, {2, 1, 0}, {4, 2, 0, 3, 1}, rising(63), falling(63), rising(64), falling(64), append(rising(64)[1:], 0)}
	chance := rand.New(rand.NewSource(14))
	for _, n := range []int{4, 5, 7, 12, 31, 32, 33, 63, 64} {
		all = append(all, chance.Perm(n), chance.Perm(n))
	}
	return all
}

// strays are numbers that are no order of their places.
func strays() [][]int {
	return [][]int{{1}, {-1}, {64}, {math.MaxInt}, {math.MinInt}, {0, 0}, {1, 1}, {0, 2}, {2, 1}, {-1, 0}, {0, -1}, {1, 2}, {0, math.MinInt}, {math.MaxInt, 1}, {0, 1, 1}, {2, 0, 2}, {0, 1, 3}, {3, 2, 1}, {1, 2, 3}, {-2, -1, 0}, {0, 1, -1}, {0, 1, 1<<32 + 2}, append(rising(63), 64), append(rising(63), 62), append(rising(63), 0), append([]int{-1}, rising(63)...), rising(65), falling(65), make([]int, 64), make([]int, 65), rising(66), rising(128), rising(1000)}
}

// vectors are vectors of no places to more than any order has, of many limbs, below 0, and with noughts behind their limbs.
func vectors() []api.Vec {
	odd, huge := many(5), many(12)
	all := []api.Vec{nil, {}, vector(7), vector(7, 8, 9), vector(-1, 2), vector(0, -3, 0, 4, -5), vector(math.MinInt, math.MaxInt, math.MinInt), noughts(), {odd, whole.Neg(huge), {}, huge}, lone(64, 63, whole.Neg(odd)), lone(65, 64, odd), make(api.Vec, 3)}
	long := rising(100)
	for i := range long {
		long[i] = (i*i*7 + 1) * (1 - i%3)
	}
	all = append(all, vec.Of(long), vec.Of(long[:64]), vec.Of(long[:63]), vec.Of(long[:12]))
	for _, v := range slices.Clone(all) {
		all = append(all, padded(v))
	}
	return all
}

// place is v's number at a place, 0 behind its end, in its one form.
func place(v api.Vec, i int) api.Int {
	if i < len(v) {
		return number(value(v[i]))
	}
	return api.Int{}
}

// P14.1: no numbers, 1 and 64 places, more, fewer, numbers that are no places or come twice.
func TestIs(t *testing.T) {
	for _, x := range []struct {
		p    []int
		n    int
		want bool
	}{
		{nil, 0, true}, {[]int{}, 0, true}, {nil, 1, false}, {nil, -1, false}, {nil, 64, false}, {nil, 65, false}, {nil, math.MinInt, false}, {nil, math.MaxInt, false},
		{[]int{0}, 1, true}, {[]int{0}, 0, false}, {[]int{0}, 2, false}, {[]int{0}, -1, false}, {[]int{1}, 1, false}, {[]int{-1}, 1, false}, {[]int{math.MaxInt}, 1, false}, {[]int{math.MinInt}, 1, false},
		{[]int{2, 0, 1}, 3, true}, {[]int{2, 0, 1}, 2, false}, {[]int{2, 0, 1}, 4, false}, {[]int{2, 0, 1}, -3, false}, {[]int{2, 0, 2}, 3, false}, {[]int{2, 0, 3}, 3, false}, {[]int{2, 0, -1}, 3, false}, {[]int{1, 0, 2}, 2, false}, {[]int{1, 0}, 3, false}, {[]int{3, 0, 1}, 4, false},
		{rising(64), 64, true}, {falling(64), 64, true}, {rising(63), 64, false}, {rising(64), 63, false}, {rising(64), 65, false}, {rising(65), 64, false}, {rising(65), 65, false}, {rising(66), 66, false}, {rising(128), 128, false}, {rising(1000), 1000, false}, {append(rising(63), 64), 64, false}, {append(rising(63), 62), 64, false}, {append(rising(63), math.MaxInt), 64, false},
	} {
		if Is(x.p, x.n) != x.want {
			t.Errorf("Is(%v, %d) is %v", x.p, x.n, !x.want)
		}
	}
	for _, p := range orders() {
		for n := -1; n <= 66; n++ {
			if Is(p, n) != (n == len(p)) {
				t.Errorf("Is(%v, %d) is %v", p, n, n != len(p))
			}
		}
	}
}

// P14.1: all rows of up to four small numbers, held against sorted ones.
func TestIsAllSmall(t *testing.T) {
	all := [][]int{nil}
	for begin, n := 0, 0; n <= 4; n++ {
		end := len(all)
		for _, p := range all[begin:end] {
			sorted := slices.Sorted(slices.Values(p))
			if want := slices.Equal(sorted, rising(n)); Is(p, n) != want {
				t.Errorf("Is(%v, %d) is %v", p, n, !want)
			}
			for x := -1; x <= 4; x++ {
				all = append(all, append(slices.Clone(p), x))
			}
		}
		begin = end
	}
}

// P14.1: what is no order.
func TestStrays(t *testing.T) {
	for _, p := range strays() {
		if Is(p, len(p)) {
			t.Errorf("Is(%v, %d) is true", p, len(p))
		}
		if q := Turn(p); len(q) > 0 {
			t.Errorf("Turn(%v) is %v", p, q)
		}
		for _, v := range vectors() {
			if a, u := Apply(p, v), Undo(p, v); len(a)+len(u) > 0 {
				t.Errorf("Apply(%v, %v) is %v, Undo %v", p, v, a, u)
			}
		}
	}
}

// P14.1: the document's example, no places, vectors shorter and longer than the order.
func TestPlaces(t *testing.T) {
	for _, x := range []struct{ p, v, applied, undone []int }{
		{[]int{2, 0, 1}, []int{7, 8, 9}, []int{9, 7, 8}, []int{8, 9, 7}}, {[]int{1, 0}, []int{-1, 2}, []int{2, -1}, []int{2, -1}}, {[]int{0}, []int{-5}, []int{-5}, []int{-5}}, {nil, nil, nil, nil}, {nil, []int{1, 2}, nil, nil}, {[]int{0}, nil, []int{0}, []int{0}}, {[]int{1, 2, 0}, nil, []int{0, 0, 0}, []int{0, 0, 0}},
		{[]int{2, 0, 1}, []int{5}, []int{0, 5, 0}, []int{0, 0, 5}}, {[]int{2, 0, 1}, []int{5, -6}, []int{0, 5, -6}, []int{-6, 0, 5}}, {[]int{2, 0, 1}, []int{1, 2, 3, 4}, []int{3, 1, 2}, []int{2, 3, 1}}, {[]int{0}, []int{1, 2}, []int{1}, []int{1}}, {[]int{1, 0}, []int{1, 2, 3, 4, 5}, []int{2, 1}, []int{2, 1}}, {[]int{4, 2, 0, 3, 1}, []int{10, 20, 30, 40, 50}, []int{50, 30, 10, 40, 20}, []int{30, 50, 20, 40, 10}},
	} {
		for _, v := range []api.Vec{vec.Of(x.v), padded(vec.Of(x.v))} {
			if a := Apply(x.p, v); !alikeVectors(a, vec.Of(x.applied)) {
				t.Errorf("Apply(%v, %v) is %v, want %v", x.p, v, a, x.applied)
			}
			if u := Undo(x.p, v); !alikeVectors(u, vec.Of(x.undone)) {
				t.Errorf("Undo(%v, %v) is %v, want %v", x.p, v, u, x.undone)
			}
		}
	}
}

// P14.1: of all sorts of orders and vectors, place by place, by the words.
func TestPlacesMany(t *testing.T) {
	for _, p := range orders() {
		for _, v := range vectors() {
			a, u := Apply(p, v), Undo(p, v)
			if len(a) != len(p) || len(u) != len(p) {
				t.Fatalf("Apply(%v, %v) is %v, Undo %v", p, v, a, u)
			}
			for i, at := range p {
				if !alike(a[i], place(v, at)) || !alike(u[at], place(v, i)) {
					t.Errorf("Apply(%v, %v) is %v, Undo %v", p, v, a, u)
				}
			}
		}
	}
}

// P14.1: the order that undoes another one.
func TestTurn(t *testing.T) {
	for _, x := range []struct{ p, want []int }{
		{nil, nil}, {[]int{0}, []int{0}}, {[]int{1, 0}, []int{1, 0}}, {[]int{2, 0, 1}, []int{1, 2, 0}}, {[]int{1, 2, 0}, []int{2, 0, 1}}, {[]int{4, 2, 0, 3, 1}, []int{2, 4, 1, 3, 0}}, {rising(64), rising(64)}, {falling(64), falling(64)}, {append(rising(64)[1:], 0), append([]int{63}, rising(63)...)},
	} {
		if q := Turn(x.p); !slices.Equal(q, x.want) {
			t.Errorf("Turn(%v) is %v, want %v", x.p, q, x.want)
		}
	}
	for _, p := range orders() {
		q := Turn(p)
		if !Is(q, len(p)) || !slices.Equal(Turn(q), p) {
			t.Fatalf("Turn(%v) is %v, and turned %v", p, q, Turn(q))
		}
		for _, v := range vectors() {
			if !alikeVectors(Apply(q, v), Undo(p, v)) || !alikeVectors(Undo(q, v), Apply(p, v)) {
				t.Errorf("Turn(%v) is %v: of %v Apply %v, Undo %v", p, q, v, Apply(q, v), Undo(q, v))
			}
		}
	}
}

// P14.3: Undo undoes Apply, and Apply Undo: what is told is v with as many places as the order has.
func TestUndo(t *testing.T) {
	for _, p := range orders() {
		for _, v := range vectors() {
			var want api.Vec
			for i := range p {
				want = append(want, place(v, i))
			}
			if u, a := Undo(p, Apply(p, v)), Apply(p, Undo(p, v)); !alikeVectors(u, want) || !alikeVectors(a, want) {
				t.Errorf("%v of %v: Undo of Apply is %v, Apply of Undo %v", p, v, u, a)
			}
		}
	}
}

// P14.3: an order changes no Norm of what has its places, and keeps who is below whom.
func TestKept(t *testing.T) {
	for _, p := range orders() {
		for _, v := range vectors() {
			if len(v) > len(p) {
				v = v[:len(p)]
			}
			if norm := vec.Norm(v); !alike(vec.Norm(Apply(p, v)), norm) || !alike(vec.Norm(Undo(p, v)), norm) {
				t.Errorf("the Norm of %v is changed by %v", v, p)
			}
		}
	}
	var small []api.Vec
	for i := range 125 {
		small = append(small, vector(i/25-2, i/5%5-2, i%5-2))
	}
	for _, p := range [][]int{{0, 2, 1}, {1, 0, 2}, {1, 2, 0}, {2, 0, 1}, {2, 1, 0}} {
		applied := each(small, func(v api.Vec) api.Vec { return Apply(p, v) })
		undone := each(small, func(v api.Vec) api.Vec { return Undo(p, v) })
		for i, a := range small {
			for j, b := range small {
				if below := shade.Below(a, b); shade.Below(applied[i], applied[j]) != below || shade.Below(undone[i], undone[j]) != below {
					t.Errorf("%v changes whether %v is below %v", p, a, b)
				}
			}
		}
	}
}

// sample is rows and how many places they have, or are said to have.
type sample struct {
	l []api.Vec
	n int
}

// samples are rows in the form: none, as many as places, fewer, of many limbs, below 0, with columns of noughts, and with noughts behind their limbs.
func samples() []sample {
	odd, huge := many(5), many(12)
	all := []sample{
		{nil, 1}, {[]api.Vec{}, 2}, {nil, 64}, {list([]int{5}), 1}, {list([]int{0, 3}), 2}, {list([]int{1, 0, -3, 2}, []int{0, 1, -2, 1}), 4}, {list([]int{0, 1, 5, 5, 1}), 5}, {list([]int{2, 1}, []int{0, 3}), 2}, {units(64), 64}, {units(64)[:63], 64}, {units(64)[1:], 64}, {[]api.Vec{lone(64, 63, odd)}, 64},
		{[]api.Vec{{odd, huge, whole.Neg(huge), whole.Neg(odd)}}, 4}, {[]api.Vec{{whole.Of(1), whole.Of(0), huge, whole.Neg(odd), odd}, {{}, huge, whole.Neg(huge), odd, odd}}, 5},
	}
	chance := rand.New(rand.NewSource(141))
	for _, size := range [][2]int{{1, 4}, {2, 5}, {3, 7}, {4, 4}, {2, 12}, {5, 12}, {3, 64}} {
		for _, span := range []int{1, 2, 100, 1 << 40} {
			var l []api.Vec
			for range size[0] {
				v := make(api.Vec, size[1])
				for i := range v {
					v[i] = whole.Of(chance.Intn(2*span+1) - span)
				}
				l = append(l, v)
			}
			h, _ := hnf.Hnf(l, size[1])
			all = append(all, sample{h, size[1]})
		}
	}
	for _, s := range slices.Clone(all) {
		all = append(all, sample{each(s.l, padded), s.n})
	}
	return all
}

// wrong are rows that are not in the form, by n.
func wrong() []sample {
	return []sample{
		{nil, 0}, {nil, -1}, {nil, 65}, {nil, math.MinInt}, {nil, math.MaxInt}, {[]api.Vec{}, 0}, {[]api.Vec{nil}, 0}, {[]api.Vec{nil}, 1}, {[]api.Vec{{}, {}}, 2}, {list([]int{1, 2}), 1}, {list([]int{1, 2}), 3}, {list([]int{1, 2}), 0}, {list([]int{1, 2}), -2}, {list([]int{1, 2}), 65}, {list([]int{2, 0}, []int{0, 3, 0}), 2}, {list([]int{2, 0}, nil), 2},
		{list([]int{0}), 1}, {list([]int{-1}), 1}, {list([]int{-1, 0, 1}), 3}, {list([]int{0, 0}), 2}, {list([]int{1, 0}, []int{0, 0}), 2}, {list([]int{0, 1}, []int{1, 0}), 2}, {list([]int{1, 2}, []int{1, 3}), 2}, {list([]int{1, 3}, []int{0, 3}), 2}, {list([]int{1, -1}, []int{0, 3}), 2}, {list([]int{1, 0}, []int{0, -3}), 2}, {[]api.Vec{noughts()}, 10}, {units(65), 65}, {[]api.Vec{lone(65, 0, whole.Of(1))}, 64}, {units(3), 2}, {units(2), 3},
	}
}

// P14.2: the document's words by small rows: none, as many as places, pivots ahead of all others, columns of as many, of noughts, and of numbers below 0.
func TestOf(t *testing.T) {
	for _, x := range []struct {
		h    [][]int
		n    int
		want []int
	}{
		{nil, 1, []int{0}}, {nil, 3, []int{0, 1, 2}}, {nil, 64, rising(64)}, {[][]int{{5}}, 1, []int{0}}, {[][]int{{1, 0}, {0, 1}}, 2, []int{0, 1}}, {[][]int{{9, 8}, {0, 9}}, 2, []int{0, 1}}, {[][]int{{1, 0, 0}, {0, 1, 0}, {0, 0, 1}}, 3, []int{0, 1, 2}},
		{[][]int{{1, 0, -3, 2}, {0, 1, -2, 1}}, 4, []int{0, 1, 3, 2}}, {[][]int{{0, 1, 5, 5, 1}}, 5, []int{1, 0, 4, 2, 3}}, {[][]int{{0, 0, 1}}, 3, []int{2, 0, 1}}, {[][]int{{0, 0, 900, 1, 0, -1}}, 6, []int{2, 0, 1, 4, 3, 5}},
		{[][]int{{7, 3, 2, 1}}, 4, []int{0, 3, 2, 1}}, {[][]int{{1, 3, 2, 2}}, 4, []int{0, 2, 3, 1}}, {[][]int{{1, -3, 2, -2}}, 4, []int{0, 2, 3, 1}}, {[][]int{{1, -3, 2, -1}}, 4, []int{0, 3, 2, 1}}, {[][]int{{1, 0, 0, 0}}, 4, []int{0, 1, 2, 3}}, {[][]int{{1, 1, 0, 0}}, 4, []int{0, 2, 3, 1}}, {[][]int{{1, 1, 0, 1, 0}}, 5, []int{0, 2, 4, 1, 3}},
		// Sums of the numbers themselves, or of their squares, would tell otherwise.
		{[][]int{{1, 0, 5, 4}, {0, 1, -5, 4}}, 4, []int{0, 1, 3, 2}}, {[][]int{{1, 0, -9, 1}, {0, 1, 1, 1}}, 4, []int{0, 1, 3, 2}}, {[][]int{{1, 0, 3, 5}, {0, 1, 3, 0}}, 4, []int{0, 1, 3, 2}}, {[][]int{{1, 0, 4, 5}, {0, 1, 4, 3}}, 4, []int{0, 1, 2, 3}}, {[][]int{{1, 0, 5, 4}, {0, 1, 3, -4}}, 4, []int{0, 1, 2, 3}}, {[][]int{{1, 0, 5, 4, -2}, {0, 1, 4, -4, 7}}, 5, []int{0, 1, 3, 2, 4}},
		// Pivots with places between them.
		{[][]int{{1, 9, 0, 3}, {0, 0, 2, -4}}, 4, []int{0, 2, 3, 1}}, {[][]int{{0, 4, 1, 1, 7}, {0, 0, 0, 2, 5}}, 5, []int{1, 3, 0, 2, 4}}, {[][]int{{0, 1, 2, 0, 1}, {0, 0, 0, 1, -1}}, 5, []int{1, 3, 0, 2, 4}}, {[][]int{{0, 1, 3, 0, 1}, {0, 0, 0, 1, -1}}, 5, []int{1, 3, 0, 4, 2}}, {[][]int{{1, 2, 0, 0}, {0, 0, 0, 1}}, 4, []int{0, 3, 2, 1}},
	} {
		for _, h := range [][]api.Vec{list(x.h...), each(list(x.h...), padded)} {
			if p := Of(h, x.n); !slices.Equal(p, x.want) {
				t.Errorf("Of(%v, %d) is %v, want %v", h, x.n, p, x.want)
			}
		}
	}
}

// P14.2: sums of many limbs, of as many limbs too.
func TestOfHuge(t *testing.T) {
	huge, one := many(9), whole.Of(1)
	less, more := whole.Sub(huge, one), whole.Add(huge, one)
	for _, x := range []struct {
		v    api.Vec
		want []int
	}{
		{api.Vec{one, more, huge, less}, []int{0, 3, 2, 1}}, {api.Vec{more, whole.Neg(more), huge, whole.Neg(less)}, []int{0, 3, 2, 1}}, {api.Vec{huge, huge, whole.Neg(huge), huge}, []int{0, 1, 2, 3}}, {api.Vec{one, whole.Neg(huge), one, {}}, []int{0, 3, 2, 1}}, {api.Vec{one, many(8), many(2), many(5)}, []int{0, 2, 3, 1}},
	} {
		for _, v := range []api.Vec{x.v, padded(x.v)} {
			if p := Of([]api.Vec{v}, 4); !slices.Equal(p, x.want) {
				t.Errorf("Of(%v) is %v, want %v", v, p, x.want)
			}
		}
	}
	if p := Of([]api.Vec{{one, {}, huge, whole.Add(more, one)}, {{}, one, whole.Neg(more), whole.Neg(less)}}, 4); !slices.Equal(p, []int{0, 1, 2, 3}) {
		t.Error(p)
	}
	if p := Of([]api.Vec{{one, {}, huge, more}, {{}, one, whole.Neg(more), whole.Neg(less)}}, 4); !slices.Equal(p, []int{0, 1, 3, 2}) {
		t.Error(p)
	}
}

// inOrder is the places by the words: one behind the other the next one is looked for.
func inOrder(h []api.Vec, n int) []int {
	var p []int
	for _, v := range h {
		p = append(p, slices.IndexFunc(v, func(x api.Int) bool { return value(x).Sign() != 0 }))
	}
	for len(p) < n {
		next, least := -1, new(big.Int)
		for i := range n {
			sum := new(big.Int)
			for _, v := range h {
				sum.Add(sum, new(big.Int).Abs(value(v[i])))
			}
			if !slices.Contains(p, i) && (next < 0 || sum.Cmp(least) < 0) {
				next, least = i, sum
			}
		}
		p = append(p, next)
	}
	return p
}

// P14.2: of all sorts of rows, held against the words; what is told is an order.
func TestOfMany(t *testing.T) {
	for _, s := range samples() {
		if p := Of(s.l, s.n); !Is(p, s.n) || !slices.Equal(p, inOrder(s.l, s.n)) {
			t.Errorf("Of(%v, %d) is %v, want %v", s.l, s.n, p, inOrder(s.l, s.n))
		}
	}
}

// P14.2: all pairs of small rows of three places, in the form or not.
func TestOfAllSmall(t *testing.T) {
	var small []api.Vec
	for i := range 125 {
		small = append(small, vector(i/25-2, i/5%5-2, i%5-2))
	}
	for _, a := range small {
		for _, b := range small {
			h := []api.Vec{a, b}
			p := Of(h, 3)
			if !hnf.Is(h, 3) {
				if len(p) > 0 {
					t.Errorf("Of(%v, 3) is %v", h, p)
				}
				continue
			}
			if !Is(p, 3) || !slices.Equal(p, inOrder(h, 3)) {
				t.Errorf("Of(%v, 3) is %v, want %v", h, p, inOrder(h, 3))
			}
		}
	}
}

// P14.2: rows that are not in the form.
func TestOfWrong(t *testing.T) {
	for _, s := range wrong() {
		if p := Of(s.l, s.n); len(p) > 0 {
			t.Errorf("Of(%v, %d) is %v", s.l, s.n, p)
		}
	}
}

// guard is rows with marks behind them, behind each one's places and behind each place's limbs; memory is all of the rows, places and limbs.
type guard struct {
	l, memory []api.Vec
	places    []api.Vec
	limbs     [][]uint32
}

func guarded(l []api.Vec) guard {
	var g guard
	for _, v := range l {
		var places api.Vec
		for _, a := range v {
			limbs := append(slices.Clone(a.Mag), mark, mark, mark)
			g.limbs = append(g.limbs, limbs)
			places = append(places, api.Int{Neg: a.Neg, Mag: limbs[:len(a.Mag)]})
		}
		places = append(places, whole.Of(mark), whole.Of(-1))
		g.places = append(g.places, places)
		g.memory = append(g.memory, places[:len(v)])
	}
	g.memory = append(g.memory, vector(mark), vector(-1, -2))
	g.l = g.memory[:len(l)]
	return g
}

// untouched tells whether all of the memory is as it is made of l.
func (g guard) untouched(l []api.Vec) bool {
	fresh := guarded(l)
	return alikeRows(g.memory, fresh.memory) && alikeRows(g.places, fresh.places) && slices.EqualFunc(g.limbs, fresh.limbs, slices.Equal)
}

// copied is l in memory of its own.
func copied(l []api.Vec) []api.Vec {
	return each(l, func(v api.Vec) api.Vec {
		var out api.Vec
		for _, a := range v {
			out = append(out, api.Int{Neg: a.Neg, Mag: slices.Clip(slices.Clone(a.Mag))})
		}
		return out
	})
}

// scribble spoils an Int's limbs, and what lies behind them.
func scribble(a api.Int) {
	for i := range a.Mag[:cap(a.Mag)] {
		a.Mag[:cap(a.Mag)][i] = mark + 1
	}
}

// spoilVector scribbles on a vector's places, and on what lies behind.
func spoilVector(v api.Vec) {
	for i, a := range v[:cap(v)] {
		scribble(a)
		v[:cap(v)][i] = whole.Of(mark)
	}
}

// spoil scribbles on rows, and on what lies behind.
func spoil(l []api.Vec) {
	for i, v := range l[:cap(l)] {
		spoilVector(v)
		l[:cap(l)][i] = vector(mark)
	}
}

// checkApart spoils one number, one row behind the other: what is not spoilt yet must stay.
func checkApart(t *testing.T, name string, got []api.Vec) {
	t.Helper()
	want := copied(got)
	for i, v := range got {
		for j := range v {
			scribble(v[j])
			if !alikeVectors(v[j+1:], want[i][j+1:]) {
				t.Errorf("%s: row %d's place %d shares memory with one behind it", name, i, j)
			}
		}
		spoilVector(v)
		if !alikeRows(got[i+1:], want[i+1:]) {
			t.Errorf("%s: row %d shares memory with one behind it", name, i)
		}
	}
}

// marked is p with marks behind it.
func marked(p []int) []int {
	return append(slices.Clone(p), mark, -1, mark)
}

// P14.1 with R2: what is handed in is neither changed nor kept, what lies behind it is not read.
func TestHandedInStays(t *testing.T) {
	for _, p := range append(orders(), strays()...) {
		for _, v := range vectors() {
			checkStays(t, p, v)
		}
	}
}

func checkStays(t *testing.T, p []int, v api.Vec) {
	t.Helper()
	behind := marked(p)
	own := behind[:len(p)]
	for name, do := range map[string]func([]int, api.Vec) api.Vec{"Apply": Apply, "Undo": Undo} {
		in := guarded([]api.Vec{v})
		want := do(slices.Clone(p), copied([]api.Vec{v})[0])
		got := do(own, in.l[0])
		spoilVector(do(own, in.l[0]))
		if !alikeVectors(got, want) {
			t.Errorf("%s of %v and %v hangs on what lies behind, or two calls' answers share memory", name, p, v)
		}
		checkApart(t, name, []api.Vec{got})
		if !in.untouched([]api.Vec{v}) {
			t.Errorf("%s of %v and %v: the vector is changed or shared", name, p, v)
		}
	}
	if !slices.Equal(behind, marked(p)) {
		t.Errorf("Apply or Undo changes %v", p)
	}
}

// spoilInts scribbles on numbers, and on what lies behind.
func spoilInts(p []int) {
	for i := range p[:cap(p)] {
		p[:cap(p)][i] = mark
	}
}

// P14.1 with R2: an order that is turned, and Is, leave p as it is, and share nothing with it.
func TestOrderStays(t *testing.T) {
	for _, p := range append(orders(), strays()...) {
		behind := marked(p)
		own := behind[:len(p)]
		got := Turn(own)
		want := slices.Clone(Turn(slices.Clone(p)))
		spoilInts(Turn(own))
		if Is(own, len(p)) != Is(slices.Clone(p), len(p)) || !slices.Equal(got, want) {
			t.Errorf("what is told of %v hangs on what lies behind it", p)
		}
		spoilInts(got)
		if !slices.Equal(behind, marked(p)) {
			t.Errorf("Is or Turn changes or shares %v", p)
		}
	}
}

// P14.2 with R2: the rows stay as they are.
func TestRowsStay(t *testing.T) {
	for _, s := range append(samples(), wrong()...) {
		in := guarded(s.l)
		got := Of(in.l, s.n)
		want := slices.Clone(Of(copied(s.l), s.n))
		spoilInts(Of(in.l, s.n))
		if !slices.Equal(got, want) || !in.untouched(s.l) {
			t.Errorf("Of(%v, %d) hangs on what lies behind, or changes it", s.l, s.n)
		}
	}
}

// P14.1, P14.2 with R2: places and rows that share limbs.
func TestSharedMemory(t *testing.T) {
	mag := []uint32{2, 1, 0}
	v := api.Vec{{Mag: mag}, {Neg: true, Mag: mag[1:]}, {Neg: true, Mag: mag[2:]}, {Mag: mag[:1]}}
	was := guarded([]api.Vec{v})
	p := []int{3, 1, 0, 2}
	got := []api.Vec{Apply(p, v), Undo(p, v), Apply(p, v)}
	if !alikeRows(got, []api.Vec{plain(api.Vec{v[3], v[1], v[0], v[2]}), plain(api.Vec{v[2], v[1], v[3], v[0]}), plain(api.Vec{v[3], v[1], v[0], v[2]})}) {
		t.Error(got)
	}
	checkApart(t, "Apply and Undo", got)
	if !was.untouched([]api.Vec{v}) || !slices.Equal(mag, []uint32{2, 1, 0}) {
		t.Error("what was handed in is changed:", v)
	}
	row := api.Vec{{Mag: mag[2:]}, {Mag: mag}, {Neg: true, Mag: mag}, {Neg: true, Mag: mag[1:]}, {Mag: mag[:1]}}
	if p := Of([]api.Vec{row}, 5); !slices.Equal(p, []int{1, 0, 3, 4, 2}) || !slices.Equal(mag, []uint32{2, 1, 0}) {
		t.Error(p, mag)
	}
}
