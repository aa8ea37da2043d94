package bezout

import (
	"math"
	"math/big"
	"math/rand"
	"slices"
	"testing"

	"quincunx/api"
	"quincunx/quot"
	"quincunx/whole"
)

const (
	top  = math.MaxUint32
	mark = 0xdeadbeef
)

// handed are Ints as they may be handed in: with either sign, noughts inside and behind, 0 in all its forms, some of many limbs.
func handed() []api.Int {
	mags := [][]uint32{
		nil, {0}, {0, 0, 0}, make([]uint32, 50), {1}, {1, 0}, {2}, {3, 0, 0}, {6}, {12, 0}, {35}, {1 << 31}, {top}, {top, 0},
		{0, 1}, {1, 1}, {top, top}, {0, 0, 1 << 31}, {5, 0, 1 << 31, 0}, {1, 2, 3, 4, 0}, slices.Repeat([]uint32{top}, 9),
	}
	chance := rand.New(rand.NewSource(6))
	for n := 1; n < 12; n += 2 {
		mags = append(mags, randomRow(chance, n))
	}
	var all []api.Int
	for _, mag := range mags {
		all = append(all, api.Int{Mag: mag}, api.Int{Neg: true, Mag: mag})
	}
	return all
}

func randomRow(chance *rand.Rand, n int) []uint32 {
	mag := make([]uint32, n)
	for i := range mag {
		mag[i] = chance.Uint32()
	}
	return mag
}

// noughts are 0 in all its forms.
func noughts() []api.Int {
	var all []api.Int
	for _, mag := range [][]uint32{nil, {}, {0}, {0, 0}, make([]uint32, 100)} {
		all = append(all, api.Int{Mag: mag}, api.Int{Neg: true, Mag: mag})
	}
	return all
}

func value(a api.Int) *big.Int {
	v := new(big.Int)
	for _, x := range slices.Backward(a.Mag) {
		v.Lsh(v, 32)
		v.Or(v, big.NewInt(int64(x)))
	}
	if a.Neg {
		v.Neg(v)
	}
	return v
}

// form is a number's one form, by another way than the package's.
func form(v *big.Int) api.Int {
	a := api.Int{Neg: v.Sign() < 0}
	low := big.NewInt(top)
	for v = new(big.Int).Abs(v); v.Sign() > 0; v.Rsh(v, 32) {
		a.Mag = append(a.Mag, uint32(new(big.Int).And(v, low).Uint64()))
	}
	return a
}

// padded is a with noughts behind its limbs, and 0 with a sign too.
func padded(a api.Int) api.Int {
	return api.Int{Neg: a.Neg || len(a.Mag) == 0, Mag: append(slices.Clone(a.Mag), 0, 0)}
}

// alike holds two Ints against each other limb by limb: not only by their values.
func alike(a, b api.Int) bool {
	return a.Neg == b.Neg && slices.Equal(a.Mag, b.Mag)
}

func expect(t *testing.T, got api.Int, want *big.Int, what ...any) {
	t.Helper()
	if !alike(got, form(want)) {
		t.Errorf("got %v, want %v, of %v", got, form(want), what)
	}
}

func isNothing(a api.Int) bool {
	return !a.Neg && len(a.Mag) == 0
}

func vector(l ...int) api.Vec {
	var v api.Vec
	for _, n := range l {
		v = append(v, whole.Of(n))
	}
	return v
}

func paddedVector(v api.Vec) api.Vec {
	var out api.Vec
	for _, a := range v {
		out = append(out, padded(a))
	}
	return out
}

// divisor is the greatest number that divides both, by another way's calls.
func divisor(v, w *big.Int) *big.Int {
	return new(big.Int).GCD(nil, nil, new(big.Int).Abs(v), new(big.Int).Abs(w))
}

// multiple is the least number that both divide, by another way's calls.
func multiple(v, w *big.Int) *big.Int {
	if v.Sign() == 0 || w.Sign() == 0 {
		return new(big.Int)
	}
	product := new(big.Int).Mul(v, w)
	return product.Abs(product).Quo(product, divisor(v, w))
}

// rule is Euclid's rule word by word, by another way's calls.
func rule(v, w *big.Int) [3]*big.Int {
	first := [3]*big.Int{v, big.NewInt(1), big.NewInt(0)}
	second := [3]*big.Int{w, big.NewInt(0), big.NewInt(1)}
	for second[0].Sign() != 0 {
		times := new(big.Int).Quo(first[0], second[0])
		var behind [3]*big.Int
		for i := range behind {
			behind[i] = new(big.Int).Sub(first[i], new(big.Int).Mul(times, second[i]))
		}
		first, second = second, behind
	}
	if first[0].Sign() >= 0 {
		return first
	}
	var turned [3]*big.Int
	for i := range turned {
		turned[i] = new(big.Int).Neg(first[i])
	}
	return turned
}

// check holds every answer about a and b against another way's.
func check(t *testing.T, a, b api.Int) {
	t.Helper()
	v, w := value(a), value(b)
	expect(t, Gcd(a, b), divisor(v, w), "Gcd", a, b)
	expect(t, Lcm(a, b), multiple(v, w), "Lcm", a, b)
	g, x, y := Ext(a, b)
	want := rule(v, w)
	for i, got := range []api.Int{g, x, y} {
		expect(t, got, want[i], "Ext", i, a, b)
	}
	if !alike(g, Gcd(a, b)) || !alike(whole.Add(whole.Mul(a, x), whole.Mul(b, y)), g) {
		t.Errorf("Ext(%v, %v) = %v, %v, %v, which do not go together", a, b, g, x, y)
	}
}

// P6.1, P6.2: whatever is handed in, 0 in all its forms on either side among it.
func TestPairs(t *testing.T) {
	all := append(handed(), noughts()...)
	for _, a := range all {
		for _, b := range all {
			check(t, a, b)
		}
	}
}

// P6.1, P6.2: all four pairs of signs, whatever form the numbers are handed in.
func TestSmallNumbers(t *testing.T) {
	for a := -40; a <= 40; a++ {
		for b := -40; b <= 40; b++ {
			x, y := whole.Of(a), whole.Of(b)
			check(t, x, y)
			check(t, padded(x), padded(y))
		}
	}
}

// P6.1: by the document's words, by trying all numbers.
func TestGreatestAndLeast(t *testing.T) {
	for a := -15; a <= 15; a++ {
		for b := -15; b <= 15; b++ {
			g, m := 0, 0
			for d := 1; d <= 15 && (a != 0 || b != 0); d++ {
				if a%d == 0 && b%d == 0 {
					g = d
				}
			}
			for n := 225; n >= 1 && a != 0 && b != 0; n-- {
				if n%a == 0 && n%b == 0 {
					m = n
				}
			}
			if got := Gcd(whole.Of(a), whole.Of(b)); !alike(got, whole.Of(g)) {
				t.Errorf("Gcd(%d, %d) = %v, want %d", a, b, got, g)
			}
			if got := Lcm(whole.Of(a), whole.Of(b)); !alike(got, whole.Of(m)) {
				t.Errorf("Lcm(%d, %d) = %v, want %d", a, b, got, m)
			}
		}
	}
}

// P6.1: two 0, one 0 on either side, one that divides the other, nothing in common, with all pairs of signs.
func TestGcdAndLcm(t *testing.T) {
	for _, c := range []struct{ a, b, g, m int }{
		{0, 0, 0, 0}, {0, 7, 7, 0}, {7, 0, 7, 0}, {0, 1, 1, 0},
		{1, 1, 1, 1}, {1, 9, 1, 9}, {3, 12, 3, 12}, {12, 3, 3, 12}, {8, 8, 8, 8},
		{8, 15, 1, 120}, {15, 8, 1, 120}, {12, 18, 6, 36}, {240, 46, 2, 5520},
		{math.MaxInt, 0, math.MaxInt, 0}, {math.MaxInt, math.MaxInt, math.MaxInt, math.MaxInt}, {1 << 40, 1 << 35, 1 << 35, 1 << 40},
	} {
		for _, s := range [][2]int{{1, 1}, {1, -1}, {-1, 1}, {-1, -1}} {
			a, b := whole.Of(s[0]*c.a), whole.Of(s[1]*c.b)
			for _, p := range [][2]api.Int{{a, b}, {padded(a), padded(b)}} {
				if g, m := Gcd(p[0], p[1]), Lcm(p[0], p[1]); !alike(g, whole.Of(c.g)) || !alike(m, whole.Of(c.m)) {
					t.Errorf("%v, %v: Gcd %v, want %d; Lcm %v, want %d", p[0], p[1], g, c.g, m, c.m)
				}
			}
		}
	}
}

// P6.2: worked out by hand: a second row that begins with 0 from the start, a first row that ends below 0, one turn, many.
func TestExt(t *testing.T) {
	for _, c := range [][5]int{
		{0, 0, 0, 1, 0}, {7, 0, 7, 1, 0}, {-7, 0, 7, -1, 0}, {1, 0, 1, 1, 0}, {-1, 0, 1, -1, 0},
		{0, 5, 5, 0, 1}, {0, -5, 5, 0, -1}, {0, 1, 1, 0, 1},
		{3, 3, 3, 0, 1}, {3, -3, 3, 0, -1}, {-3, 3, 3, 0, 1}, {-3, -3, 3, 0, -1},
		{2, 4, 2, 1, 0}, {2, -4, 2, 1, 0}, {-2, 4, 2, -1, 0}, {-2, -4, 2, -1, 0},
		{4, 2, 2, 0, 1}, {4, -2, 2, 0, -1}, {-4, 2, 2, 0, 1}, {-4, -2, 2, 0, -1},
		{12, 18, 6, -1, 1}, {12, -18, 6, -1, -1}, {-12, 18, 6, 1, 1}, {-12, -18, 6, 1, -1},
		{8, 5, 1, 2, -3}, {8, -5, 1, 2, 3}, {-8, 5, 1, -2, -3}, {-8, -5, 1, -2, 3},
		{5, 8, 1, -3, 2}, {-5, 8, 1, 3, 2}, {5, -8, 1, -3, -2}, {-5, -8, 1, 3, -2},
		{240, 46, 2, -9, 47}, {1, 1, 1, 0, 1}, {1, -1, 1, 0, -1},
	} {
		a, b := whole.Of(c[0]), whole.Of(c[1])
		for _, p := range [][2]api.Int{{a, b}, {padded(a), padded(b)}} {
			g, x, y := Ext(p[0], p[1])
			if !alike(g, whole.Of(c[2])) || !alike(x, whole.Of(c[3])) || !alike(y, whole.Of(c[4])) {
				t.Errorf("Ext(%v, %v) = %v, %v, %v, want %v", p[0], p[1], g, x, y, c[2:])
			}
		}
	}
}

// P6.1, P6.2: numbers of hundreds of limbs; neighbours of Fibonacci's row, by which Euclid's rule takes longest.
func TestLong(t *testing.T) {
	chance := rand.New(rand.NewSource(66))
	full := api.Int{Mag: slices.Repeat([]uint32{top}, 120)}
	part := api.Int{Mag: slices.Repeat([]uint32{top}, 80)}
	factor := api.Int{Mag: append(randomRow(chance, 40), 1)}
	some := api.Int{Mag: randomRow(chance, 90)}
	older, newer := whole.Of(1), whole.Of(1)
	for range 3000 {
		older, newer = newer, whole.Add(older, newer)
	}
	all := []api.Int{full, part, factor, some, whole.Mul(factor, full), whole.Mul(factor, some), older, newer, whole.Of(6)}
	for i, a := range all {
		for j, b := range all {
			if (i+j)%2 == 1 {
				a = whole.Neg(a)
			}
			check(t, a, b)
			check(t, padded(b), padded(whole.Neg(a)))
		}
	}
}

// vectors are those the chapter names, ordinary ones and such as have numbers of many limbs.
func vectors() []api.Vec {
	long := api.Int{Neg: true, Mag: slices.Repeat([]uint32{top}, 30)}
	all := []api.Vec{
		nil, {}, noughts(), vector(0), vector(0, 0), vector(1), vector(-1), vector(4), vector(-4), vector(6, -9, 0),
		vector(-6, -10, -15), vector(5, 7), vector(0, 0, -8, 0, 12), vector(math.MinInt, math.MaxInt), vector(math.MinInt, 1<<40),
		{long}, {long, long}, {long, whole.Of(0), whole.Mul(long, whole.Of(-35))}, {long, whole.Of(2)}, handed(),
	}
	for n := range 6 {
		v := vector(6, -10, 15, 0, -30, 42)[:n]
		for _, by := range []api.Int{whole.Of(-12), long} {
			var w api.Vec
			for _, a := range v {
				w = append(w, whole.Mul(a, by))
			}
			all = append(all, w)
		}
	}
	return all
}

// P6.3: held against another way's answers, whatever form the numbers are handed in.
func TestVectors(t *testing.T) {
	for _, v := range vectors() {
		for _, w := range []api.Vec{v, paddedVector(v)} {
			g := new(big.Int)
			for _, a := range w {
				g = divisor(g, value(a))
			}
			expect(t, All(w), g, "All", w)
			got := Primitive(w)
			if len(got) != len(w) {
				t.Errorf("Primitive(%v) has %d places", w, len(got))
				continue
			}
			for i, a := range w {
				want := value(a)
				if g.Sign() != 0 {
					want.Quo(want, g)
				}
				expect(t, got[i], want, "Primitive", i, w)
			}
		}
	}
}

// P6.3: no numbers, noughts alone, one number, numbers below 0, as the document's words have them.
func TestAllAndPrimitive(t *testing.T) {
	for _, c := range []struct {
		v    []int
		all  int
		want []int
	}{
		{nil, 0, nil},
		{[]int{0}, 0, []int{0}},
		{[]int{0, 0, 0}, 0, []int{0, 0, 0}},
		{[]int{1}, 1, []int{1}},
		{[]int{9}, 9, []int{1}},
		{[]int{-9}, 9, []int{-1}},
		{[]int{-4, -6}, 2, []int{-2, -3}},
		{[]int{6, -9, 0}, 3, []int{2, -3, 0}},
		{[]int{0, 0, -5}, 5, []int{0, 0, -1}},
		{[]int{6, 10, 15}, 1, []int{6, 10, 15}},
		{[]int{-5, 7}, 1, []int{-5, 7}},
		{[]int{7, 7, -7}, 7, []int{1, 1, -1}},
		{[]int{math.MinInt}, 0, []int{-1}},
	} {
		for _, v := range []api.Vec{vector(c.v...), paddedVector(vector(c.v...))} {
			all := whole.Of(c.all)
			if slices.Contains(c.v, math.MinInt) {
				// Its size is no int.
				all = api.Int{Mag: []uint32{0, 1 << 31}}
			}
			if got := All(v); !alike(got, all) {
				t.Errorf("All(%v) = %v, want %v", v, got, all)
			}
			if got := Primitive(v); !slices.EqualFunc(got, vector(c.want...), alike) {
				t.Errorf("Primitive(%v) = %v, want %v", v, got, c.want)
			}
		}
	}
}

// P6.3: 0 is told in its one form, be it All, or a place of Primitive.
func TestNoughtsForm(t *testing.T) {
	v := api.Vec(noughts())
	if got := All(v); !isNothing(got) {
		t.Errorf("All of noughts: %v", got)
	}
	for _, w := range []api.Vec{v, append(slices.Clone(v), whole.Of(-3))} {
		for i, a := range Primitive(w)[:len(v)] {
			if !isNothing(a) {
				t.Errorf("Primitive(%v): place %d is %v", w, i, a)
			}
		}
	}
}

// P6.4: each common divisor divides Gcd, and Gcd is one.
func TestCommonDivisors(t *testing.T) {
	for a := -36; a <= 36; a++ {
		for b := -36; b <= 36; b++ {
			x, y := whole.Of(a), whole.Of(b)
			g := Gcd(x, y)
			if !quot.Divides(g, x) || !quot.Divides(g, y) {
				t.Errorf("Gcd(%d, %d) = %v divides not both", a, b, g)
			}
			for d := -36; d <= 36; d++ {
				z := whole.Of(d)
				if quot.Divides(z, x) && quot.Divides(z, y) && !quot.Divides(z, g) {
					t.Errorf("%d divides %d and %d, not %v", d, a, b, g)
				}
			}
		}
	}
	all := handed()
	for _, a := range all {
		for _, b := range all {
			for _, d := range all {
				x, y := whole.Mul(a, d), whole.Mul(b, d)
				if g := Gcd(x, y); !quot.Divides(d, g) || !quot.Divides(g, x) || !quot.Divides(g, y) {
					t.Fatalf("Gcd(%v, %v) = %v, but %v is in both", x, y, g, d)
				}
			}
		}
	}
}

// P6.4: Primitive's All is 1, or 0 of noughts alone.
func TestAllOfPrimitive(t *testing.T) {
	for _, v := range vectors() {
		want := whole.Of(0)
		for _, a := range v {
			if value(a).Sign() != 0 {
				want = whole.Of(1)
			}
		}
		p := Primitive(v)
		if got := All(p); !alike(got, want) {
			t.Errorf("All of Primitive(%v): %v", v, got)
		}
		if !slices.EqualFunc(Primitive(p), p, alike) {
			t.Errorf("Primitive twice of %v is not once", v)
		}
	}
}

// The document's example.
func TestExample(t *testing.T) {
	g, x, y := Ext(whole.Of(12), whole.Of(-18))
	if !alike(g, whole.Of(6)) || !alike(x, whole.Of(-1)) || !alike(y, whole.Of(-1)) {
		t.Error("Ext:", g, x, y)
	}
}

// call is one call by which numbers may be changed, kept or told.
type call struct {
	name string
	do   func(v api.Vec) api.Vec
}

// calls takes vectors of two places or more for those that ask for two numbers.
func calls() []call {
	return []call{
		{"Gcd", func(v api.Vec) api.Vec { return api.Vec{Gcd(v[0], v[1])} }},
		{"Lcm", func(v api.Vec) api.Vec { return api.Vec{Lcm(v[0], v[1])} }},
		{"Ext", func(v api.Vec) api.Vec { g, x, y := Ext(v[0], v[1]); return api.Vec{g, x, y} }},
		{"All", func(v api.Vec) api.Vec { return api.Vec{All(v)} }},
		{"Primitive", Primitive},
	}
}

// guarded is v with marks behind its places and behind each place's limbs, and all of that memory.
func guarded(v api.Vec) (out, places api.Vec, limbs [][]uint32) {
	for _, a := range v {
		memory := append(slices.Clone(a.Mag), mark, mark, mark)
		limbs = append(limbs, memory)
		places = append(places, api.Int{Neg: a.Neg, Mag: memory[:len(a.Mag)]})
	}
	places = append(places, whole.Of(mark), whole.Of(-1))
	return places[:len(v)], places, limbs
}

func bare(v api.Vec) api.Vec {
	var out api.Vec
	for _, a := range v {
		out = append(out, api.Int{Neg: a.Neg, Mag: slices.Clip(slices.Clone(a.Mag))})
	}
	return out
}

// scribble spoils an Int's limbs, and what lies behind them.
func scribble(a api.Int) {
	all := a.Mag[:cap(a.Mag)]
	for i := range all {
		all[i] = mark + 1
	}
}

// P6.1, P6.2, P6.3 with R2.
func TestHandedInStays(t *testing.T) {
	few := api.Vec{{}, {Neg: true, Mag: []uint32{0, 0}}, {Mag: []uint32{1}}, {Neg: true, Mag: []uint32{1, 0}}, {Mag: []uint32{12}},
		{Neg: true, Mag: []uint32{18, 0}}, {Mag: []uint32{top, top}}, {Neg: true, Mag: []uint32{5, 0, 1 << 31}}, {Mag: []uint32{1, 2, 3, 4, 0}}}
	for _, c := range calls() {
		for _, a := range few {
			for _, b := range few {
				checkStays(t, c, api.Vec{a, b})
				checkStays(t, c, api.Vec{a, b, a, b})
			}
		}
	}
}

func checkStays(t *testing.T, c call, v api.Vec) {
	t.Helper()
	in, places, limbs := guarded(v)
	placesWere := bare(places)
	var limbsWere [][]uint32
	for _, memory := range limbs {
		limbsWere = append(limbsWere, slices.Clone(memory))
	}
	want := bare(c.do(bare(v)))
	got := c.do(in)
	if !slices.EqualFunc(got, want, alike) {
		t.Errorf("%s of %v hangs on what lies behind", c.name, v)
	}
	other := c.do(in)
	for i, told := range other {
		scribble(told)
		other[i] = whole.Of(mark)
	}
	if !slices.EqualFunc(places, placesWere, alike) || !slices.EqualFunc(limbs, limbsWere, slices.Equal) {
		t.Errorf("%s of %v: what was handed in is changed or shared", c.name, v)
	}
	if !slices.EqualFunc(got, want, alike) {
		t.Errorf("%s of %v: two calls' answers share memory", c.name, v)
	}
	for i := range got {
		scribble(got[i])
		for j := i + 1; j < len(got); j++ {
			if !alike(got[j], want[j]) {
				t.Errorf("%s of %v: answers %d and %d share memory", c.name, v, i, j)
			}
		}
	}
}

// P6.1, P6.2, P6.3 with R2: one number handed in twice, and numbers that share limbs.
func TestOneNumberTwice(t *testing.T) {
	mag := []uint32{top, 3, 0}
	v := api.Vec{{Neg: true, Mag: mag}, {Mag: mag[1:]}, {Neg: true, Mag: mag}}
	for _, a := range v {
		for _, b := range v {
			check(t, a, b)
		}
	}
	// The limbs are 2^34 - 1, which 3 divides.
	if p := Primitive(v); !alike(All(v), whole.Of(3)) || !alike(p[1], whole.Of(1)) || !alike(p[0], whole.Of(-(1<<34-1)/3)) {
		t.Error("All, Primitive:", All(v), p)
	}
	if !slices.Equal(mag, []uint32{top, 3, 0}) || !v[0].Neg || v[1].Neg {
		t.Error("what was handed in is changed:", v)
	}
}
