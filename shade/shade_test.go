package shade

import (
	"math"
	"math/big"
	"math/rand"
	"slices"
	"testing"

	"quincunx/api"
	"quincunx/vec"
	"quincunx/whole"
)

const (
	top  = math.MaxUint32
	mark = 0xdeadbeef
)

// many is a number of n limbs.
func many(n int) api.Int {
	return api.Int{Mag: slices.Repeat([]uint32{top}, n)}
}

// vector is short for a vector of ints.
func vector(l ...int) api.Vec {
	return vec.Of(l)
}

// padded is v, each place with noughts behind its limbs, and 0 with a sign too.
func padded(v api.Vec) api.Vec {
	var out api.Vec
	for _, a := range v {
		out = append(out, api.Int{Neg: a.Neg || len(a.Mag) == 0, Mag: append(slices.Clone(a.Mag), 0, 0)})
	}
	return out
}

// scaled is v, each place times a number of many limbs.
func scaled(v api.Vec) api.Vec {
	return vec.Times(v, many(7))
}

// asHanded are ways in which a vector may be handed in, by which no sign changes, nor what is below what, if all go the same way.
func asHanded() []func(api.Vec) api.Vec {
	return []func(api.Vec) api.Vec{
		slices.Clone[api.Vec], padded, scaled,
		func(v api.Vec) api.Vec { return padded(scaled(v)) },
	}
}

// noughts are 0 in all its forms.
func noughts() api.Vec {
	var all api.Vec
	for _, mag := range [][]uint32{nil, {}, {0}, {0, 0}, make([]uint32, 100)} {
		all = append(all, api.Int{Mag: mag}, api.Int{Neg: true, Mag: mag})
	}
	return all
}

// lone is n noughts, but for x at place i.
func lone(n, i int, x api.Int) api.Vec {
	v := make(api.Vec, n)
	v[i] = x
	return v
}

// handed are vectors as they may be handed in, of many lengths, without places among them.
func handed() []api.Vec {
	odd, huge := many(9), many(60)
	all := []api.Vec{
		nil, {}, noughts(), vector(0), vector(1), vector(-1), vector(0, 0, 1), vector(0, 0, -1), vector(1, -2, 3), vector(5, 7), vector(5, -7, 9), vector(-5, -7),
		vector(3, 5, -5), vector(1, 0, -2), vector(math.MinInt, math.MaxInt), vector(math.MaxInt, math.MinInt, -1), vector(math.MinInt+1, 1),
		{odd}, {whole.Neg(odd)}, {whole.Add(odd, whole.Of(1)), whole.Of(-3)}, {huge, whole.Neg(huge)}, {odd, whole.Neg(odd), whole.Of(0)},
		{whole.Mul(odd, huge), whole.Neg(huge), whole.Of(-1)}, {whole.Of(0), whole.Neg(odd), huge},
		make(api.Vec, 64), lone(70, 64, whole.Of(2)), lone(64, 63, whole.Of(-2)), lone(90, 2, whole.Of(3)), lone(90, 89, odd),
	}
	for _, v := range slices.Clone(all) {
		all = append(all, padded(v))
	}
	chance := rand.New(rand.NewSource(8))
	for _, n := range []int{1, 1, 1, 2, 2, 2, 2, 3, 3, 3, 4, 5, 65} {
		v := make(api.Vec, n)
		for i := range v {
			v[i] = whole.Of(chance.Intn(9) - 4)
		}
		all = append(all, v, vec.Times(v, whole.Of(3)), scaled(v))
	}
	return all
}

// small are all vectors of up to two places from -2 to 2, and some of three.
func small() []api.Vec {
	all := []api.Vec{nil, vector(0, 0, 1), vector(1, 0, 1), vector(1, -1, 2), vector(2, -2, 2), vector(2, -1, -1)}
	for x := -2; x <= 2; x++ {
		all = append(all, vector(x))
		for y := -2; y <= 2; y++ {
			all = append(all, vector(x, y))
		}
	}
	return all
}

// few are vectors of every kind, but not so many that all threes of them take long.
func few() []api.Vec {
	odd := many(5)
	return append(small(), padded(vector(1, 0)), padded(vector(-2, 1, 0)), noughts(), scaled(vector(1, -1)), scaled(vector(2, -3, 1)),
		api.Vec{whole.Neg(odd), whole.Mul(odd, odd)}, vector(math.MinInt, math.MaxInt), lone(70, 66, whole.Of(1)), lone(66, 65, odd))
}

func value(a api.Int) *big.Int {
	v := new(big.Int)
	for _, x := range slices.Backward(a.Mag) {
		v.Lsh(v, 32)
		v.Or(v, big.NewInt(int64(x)))
	}
	if a.Neg {
		v.Neg(v)
	}
	return v
}

// values are v's places by another way than the program's, with noughts behind up to n of them.
func values(v api.Vec, n int) []*big.Int {
	var all []*big.Int
	for _, a := range v {
		all = append(all, value(a))
	}
	for len(all) < n {
		all = append(all, new(big.Int))
	}
	return all
}

// bothValues are a's and b's places, as many of each.
func bothValues(a, b api.Vec) (x, y []*big.Int) {
	n := max(len(a), len(b))
	return values(a, n), values(b, n)
}

// isBelow is the document's word, place by place.
func isBelow(x, y []*big.Int) bool {
	for i := range x {
		if x[i].Sign() != 0 && (x[i].Sign() != y[i].Sign() || x[i].CmpAbs(y[i]) > 0) {
			return false
		}
	}
	return true
}

func agrees(x, y []*big.Int) bool {
	for i := range x {
		if x[i].Sign() > 0 && y[i].Sign() < 0 || x[i].Sign() < 0 && y[i].Sign() > 0 {
			return false
		}
	}
	return true
}

func isNought(x []*big.Int) bool {
	return !slices.ContainsFunc(x, func(n *big.Int) bool { return n.Sign() != 0 })
}

func times(x []*big.Int, q *big.Int) []*big.Int {
	var all []*big.Int
	for _, n := range x {
		all = append(all, new(big.Int).Mul(n, q))
	}
	return all
}

// alike holds two Ints against each other limb by limb: not only by their values.
func alike(a, b api.Int) bool {
	return a.Neg == b.Neg && slices.Equal(a.Mag, b.Mag)
}

// oneForm tells whether a has no nought as its last limb, and no sign beside 0.
func oneForm(a api.Int) bool {
	n := len(a.Mag)
	return n == 0 && !a.Neg || n > 0 && a.Mag[n-1] != 0
}

// expect holds got against want place by place, limb by limb, and by how many places there are.
func expect(t *testing.T, got, want api.Vec, what ...any) {
	t.Helper()
	if !slices.EqualFunc(got, want, alike) {
		t.Errorf("got %v, want %v, of %v", got, want, what)
	}
}

// P8.1: no places, noughts alone in all their forms, many limbs, more than 64 places.
func TestSignsAndSupport(t *testing.T) {
	for _, c := range []struct {
		v              api.Vec
		signs, support []int
	}{
		{nil, nil, nil},
		{api.Vec{}, nil, nil},
		{vector(0), []int{0}, nil},
		{noughts(), make([]int, 10), nil},
		{make(api.Vec, 70), make([]int, 70), nil},
		{vector(5), []int{1}, []int{0}},
		{vector(-5), []int{-1}, []int{0}},
		{vector(3, 0, -1, 0, 7), []int{1, 0, -1, 0, 1}, []int{0, 2, 4}},
		{vector(0, 0, -4), []int{0, 0, -1}, []int{2}},
		{vector(-1, 1, 0, 0), []int{-1, 1, 0, 0}, []int{0, 1}},
		{vector(math.MinInt, math.MaxInt), []int{-1, 1}, []int{0, 1}},
		{api.Vec{{Neg: true, Mag: []uint32{0, 0, 1}}, {Mag: []uint32{0, 1}}}, []int{-1, 1}, []int{0, 1}},
	} {
		for _, turn := range asHanded() {
			v := turn(c.v)
			if got := Signs(v); !slices.Equal(got, c.signs) {
				t.Errorf("Signs(%v) = %v, want %v", v, got, c.signs)
			}
			if got := Support(v); !slices.Equal(got, c.support) {
				t.Errorf("Support(%v) = %v, want %v", v, got, c.support)
			}
		}
	}
}

// P8.1: one place alone, at 63, at 64 and beyond among them.
func TestPlaceByPlace(t *testing.T) {
	for i := range 140 {
		for _, x := range []api.Int{whole.Of(1), whole.Of(-3), {Mag: []uint32{0, 0, 1, 0}}, whole.Neg(many(4))} {
			v := lone(140, i, x)
			want := uint64(0)
			if i < 64 {
				want = uint64(math.Pow(2, float64(i)))
			}
			if Bits(v) != want || Bits(v[:i+1]) != want || Bits(v[:i]) != 0 {
				t.Errorf("Bits of place %d: %x, want %x", i, Bits(v), want)
			}
			if !slices.Equal(Support(v), []int{i}) || !slices.Equal(Support(v[:i+1]), []int{i}) || len(Support(v[:i])) != 0 {
				t.Errorf("Support of place %d: %v", i, Support(v))
			}
			if signs := Signs(v); len(signs) != 140 || signs[i] != value(x).Sign() || slices.ContainsFunc(slices.Delete(signs, i, i+1), func(s int) bool { return s != 0 }) {
				t.Errorf("Signs of place %d: %v", i, Signs(v))
			}
		}
	}
}

// P8.1: noughts alone have no bits; places beyond 63 take none from those ahead.
func TestBits(t *testing.T) {
	full := slices.Repeat(vector(-1), 130)
	for _, c := range []struct {
		v    api.Vec
		want uint64
	}{
		{nil, 0}, {api.Vec{}, 0}, {vector(0), 0}, {noughts(), 0}, {make(api.Vec, 64), 0}, {make(api.Vec, 130), 0},
		{vector(1), 1}, {vector(-1), 1}, {vector(2), 1}, {vector(0, 1), 2}, {vector(3, 0, -1, 0, 7), 0b10101},
		{full[:3], 7}, {full[:63], math.MaxUint64 >> 1}, {full[:64], math.MaxUint64}, {full[:65], math.MaxUint64}, {full, math.MaxUint64},
		{append(make(api.Vec, 64), full...), 0}, {append(make(api.Vec, 63), full...), 1 << 63}, {append(vector(0, 4), make(api.Vec, 90)...), 2},
	} {
		for _, turn := range asHanded() {
			if got := Bits(turn(c.v)); got != c.want {
				t.Errorf("Bits of %d places = %x, want %x", len(c.v), got, c.want)
			}
		}
	}
}

// P8.1: behind the shorter one's end, on either side, whatever stands there agrees.
func TestAgree(t *testing.T) {
	for _, c := range []struct {
		a, b []int
		want bool
	}{
		{nil, nil, true}, {nil, []int{5}, true}, {nil, []int{-5, 4}, true}, {nil, []int{0, 0}, true},
		{[]int{1}, []int{1}, true}, {[]int{1}, []int{9}, true}, {[]int{-1}, []int{-9}, true}, {[]int{1}, []int{-1}, false}, {[]int{-9}, []int{1}, false},
		{[]int{0}, []int{1}, true}, {[]int{0}, []int{-1}, true}, {[]int{0}, []int{0}, true},
		{[]int{1, -2, 3}, []int{0, -1, 7}, true}, {[]int{1, -2, 3}, []int{-1, -1, 7}, false}, {[]int{1, -2, 3}, []int{1, 1, 7}, false}, {[]int{1, -2, 3}, []int{1, -1, -7}, false},
		{[]int{1}, []int{2, 0, 0}, true}, {[]int{1}, []int{2, -3, 4}, true}, {[]int{1}, []int{-2, 0, 0}, false}, {[]int{1}, []int{-2, -3}, false},
		{[]int{0, 4}, []int{7, 1, -2}, true}, {[]int{0, 4}, []int{7, -1}, false}, {[]int{-1, -1}, []int{1, 1}, false},
	} {
		for _, turn := range asHanded() {
			a, b := turn(vector(c.a...)), turn(vector(c.b...))
			if Agree(a, b) != c.want || Agree(b, a) != c.want {
				t.Errorf("Agree of %v, %v: %v, turned round %v, want %v", a, b, Agree(a, b), Agree(b, a), c.want)
			}
		}
	}
}

// P8.1: of one and itself, of one that is greater at one place, of one that has the other sign there, of different lengths.
func TestBelow(t *testing.T) {
	for _, c := range []struct {
		a, b []int
		want bool
	}{
		{nil, nil, true}, {nil, []int{5, -3}, true}, {nil, []int{0}, true}, {[]int{0, 0}, nil, true}, {[]int{0, 1}, nil, false}, {[]int{-1}, nil, false},
		{[]int{0}, []int{5}, true}, {[]int{0}, []int{-5}, true}, {[]int{5}, []int{0}, false}, {[]int{-5}, []int{0}, false},
		{[]int{3}, []int{3}, true}, {[]int{-3}, []int{-3}, true}, {[]int{2}, []int{3}, true}, {[]int{-2}, []int{-3}, true},
		{[]int{4}, []int{3}, false}, {[]int{-4}, []int{-3}, false}, {[]int{-3}, []int{3}, false}, {[]int{3}, []int{-3}, false}, {[]int{-1}, []int{9}, false}, {[]int{1}, []int{-9}, false},
		{[]int{1, 0, -2}, []int{1, 0, -2}, true}, {[]int{1, 0, -2}, []int{3, 5, -5}, true}, {[]int{1, 0, -2}, []int{3, 5, -1}, false}, {[]int{1, 0, -2}, []int{0, 5, -5}, false},
		{[]int{1, 0, -2}, []int{3, 5, 5}, false}, {[]int{1, 0, -2}, []int{-3, 5, -5}, false}, {[]int{1, 1, -2}, []int{3, 0, -5}, false}, {[]int{1, -1, -2}, []int{3, 1, -5}, false},
		{[]int{3, 5, -5}, []int{1, 0, -2}, false},
		{[]int{2}, []int{2, 0, 0}, true}, {[]int{2, 0, 0}, []int{2}, true}, {[]int{2}, []int{2, 7, -7}, true}, {[]int{2, 0, 1}, []int{2}, false}, {[]int{2, -1, 0}, []int{5}, false},
		{[]int{2, 0, 0}, []int{1}, false}, {[]int{2}, []int{1, 7}, false},
	} {
		for _, turn := range asHanded() {
			if a, b := turn(vector(c.a...)), turn(vector(c.b...)); Below(a, b) != c.want {
				t.Errorf("Below(%v, %v): not %v", a, b, c.want)
			}
		}
	}
}

// P8.1: the least difference in numbers of many limbs, at any place, and beyond place 63.
func TestBelowByOne(t *testing.T) {
	for _, x := range []api.Int{whole.Of(1), whole.Of(top), {Mag: []uint32{0, 1}}, whole.Of(math.MaxInt), many(30)} {
		for i := range 70 {
			more := whole.Add(x, whole.Of(1))
			a, b := lone(70, i, x), lone(70, i, more)
			minusA, minusB := lone(70, i, whole.Neg(x)), lone(70, i, whole.Neg(more))
			if !Below(a, b) || !Below(minusA, minusB) || !Below(a, a) || !Below(minusB, minusB) {
				t.Errorf("%v at place %d: not below", x, i)
			}
			if Below(b, a) || Below(minusB, minusA) || Below(a, minusA) || Below(minusA, b) || Below(a, b[:i]) || Below(minusA, minusA[:i]) {
				t.Errorf("%v at place %d: below", x, i)
			}
		}
	}
}

// P8.2: places above 0, below 0 and 0; as many places as are handed in.
func TestPlusAndMinus(t *testing.T) {
	for _, c := range []struct{ v, plus, minus []int }{
		{nil, nil, nil},
		{[]int{0}, []int{0}, []int{0}},
		{[]int{4}, []int{4}, []int{0}},
		{[]int{-4}, []int{0}, []int{4}},
		{[]int{3, 0, -1, 7}, []int{3, 0, 0, 7}, []int{0, 0, 1, 0}},
		{[]int{-3, -1, 0, 0}, []int{0, 0, 0, 0}, []int{3, 1, 0, 0}},
		{[]int{1, 2, 0, 0}, []int{1, 2, 0, 0}, []int{0, 0, 0, 0}},
		{make([]int, 70), make([]int, 70), make([]int, 70)},
	} {
		for _, turn := range []func(api.Vec) api.Vec{slices.Clone[api.Vec], padded} {
			v := turn(vector(c.v...))
			expect(t, Plus(v), vector(c.plus...), "Plus", v)
			expect(t, Minus(v), vector(c.minus...), "Minus", v)
			expect(t, Plus(scaled(v)), scaled(vector(c.plus...)), "Plus", v)
			expect(t, Minus(scaled(v)), scaled(vector(c.minus...)), "Minus", v)
		}
	}
	// The least int has no counterpart above 0 among the ints.
	expect(t, Minus(vector(math.MinInt)), api.Vec{{Mag: []uint32{0, 1 << 31}}}, "Minus of the least int")
	expect(t, Plus(noughts()), make(api.Vec, 10), "Plus of noughts")
	expect(t, Minus(noughts()), make(api.Vec, 10), "Minus of noughts")
}

// P8.2: nought, one that isn't below, one that fits just once, one that fits often with what is left at one place alone, different lengths.
func TestFits(t *testing.T) {
	for _, c := range []struct {
		a, b []int
		want int
	}{
		{nil, nil, 0}, {nil, []int{5}, 0}, {[]int{0}, []int{5}, 0}, {[]int{0, 0}, nil, 0}, {[]int{0, 0, 0}, []int{7, -7}, 0}, {[]int{1}, nil, 0}, {[]int{-1}, nil, 0},
		{[]int{1}, []int{7}, 7}, {[]int{-1}, []int{-7}, 7}, {[]int{-1}, []int{7}, 0}, {[]int{1}, []int{-7}, 0}, {[]int{2}, []int{7}, 3}, {[]int{-2}, []int{-7}, 3},
		{[]int{7}, []int{7}, 1}, {[]int{8}, []int{7}, 0}, {[]int{4}, []int{7}, 1}, {[]int{-4}, []int{-7}, 1}, {[]int{-8}, []int{-7}, 0}, {[]int{3}, []int{0}, 0},
		{[]int{1, 0, -2}, []int{3, 5, -5}, 2}, {[]int{1, 0, -2}, []int{1, 5, -50}, 1}, {[]int{1, 0, -2}, []int{50, 5, -2}, 1}, {[]int{1, 0, -2}, []int{50, 5, -1}, 0},
		{[]int{1, 0, -2}, []int{50, 5, 50}, 0}, {[]int{1, 0, -2}, []int{-50, 5, -50}, 0}, {[]int{1, 0, -2}, []int{0, 5, -50}, 0},
		{[]int{2, 3}, []int{8, 12}, 4}, {[]int{2, 3}, []int{9, 12}, 4}, {[]int{2, 3}, []int{8, 14}, 4}, {[]int{2, 3}, []int{8, 11}, 3}, {[]int{2, 3}, []int{7, 12}, 3},
		{[]int{2, -3, 1}, []int{20, -30, 6}, 6}, {[]int{2, -3, 1}, []int{12, -30, 10}, 6}, {[]int{2, -3, 1}, []int{20, -18, 10}, 6},
		{[]int{2}, []int{7, -9, 4}, 3}, {[]int{2, 0, 0}, []int{7}, 3}, {[]int{2, 0, 1}, []int{7}, 0}, {[]int{2, -1}, []int{7}, 0}, {[]int{0, 1}, []int{7}, 0}, {[]int{0, 2}, []int{0, 9, 0}, 4},
		{[]int{1}, []int{math.MaxInt}, math.MaxInt}, {[]int{-2}, []int{math.MinInt}, 1 << 62}, {[]int{math.MinInt}, []int{math.MinInt}, 1}, {[]int{math.MinInt}, []int{math.MaxInt}, 0},
	} {
		for _, turn := range asHanded() {
			a, b := turn(vector(c.a...)), turn(vector(c.b...))
			if got := Fits(a, b); !alike(got, whole.Of(c.want)) {
				t.Errorf("Fits(%v, %v) = %v, want %d", a, b, got, c.want)
			}
		}
	}
}

// P8.2: how often it fits is a number of many limbs, and is bounded by one place alone, whichever that is.
func TestFitsOfMany(t *testing.T) {
	part, often := vec.Times(vector(3, -5, 7, 0), many(3)), many(11)
	for i := range 3 {
		sum := vec.Times(part, often)
		for j := range 3 {
			if j != i {
				sum[j] = whole.Mul(sum[j], whole.Of(2))
			}
		}
		if got := Fits(part, sum); !alike(got, often) {
			t.Errorf("bounded at place %d: %v", i, got)
		}
		// Nearer to 0 by one, so that the last time does not fit any more.
		sum[i] = whole.Sub(sum[i], whole.Of(whole.Sign(sum[i])))
		if got := Fits(padded(part), padded(sum)); !alike(got, whole.Sub(often, whole.Of(1))) {
			t.Errorf("bounded at place %d, one less: %v", i, got)
		}
	}
}

// P8.1, P8.2: held against the document's words by another way.
func TestHeldAgainstTheWords(t *testing.T) {
	all := append(handed(), small()...)
	for _, a := range all {
		for _, b := range all {
			x, y := bothValues(a, b)
			if Below(a, b) != isBelow(x, y) {
				t.Errorf("Below(%v, %v): %v", a, b, Below(a, b))
			}
			if Agree(a, b) != agrees(x, y) {
				t.Errorf("Agree(%v, %v): %v", a, b, Agree(a, b))
			}
			checkFits(t, a, b)
		}
	}
}

// checkFits asks just what the words ask: that often it is below, once more it is not.
func checkFits(t *testing.T, a, b api.Vec) {
	t.Helper()
	x, y := bothValues(a, b)
	got := Fits(a, b)
	q := value(got)
	if !oneForm(got) || q.Sign() < 0 {
		t.Errorf("Fits(%v, %v) = %v, not in its one form, or below 0", a, b, got)
	}
	if isNought(x) {
		if q.Sign() != 0 {
			t.Errorf("Fits(%v, %v) = %v, of nought", a, b, got)
		}
		return
	}
	once := new(big.Int).Add(q, big.NewInt(1))
	if !isBelow(times(x, q), y) || isBelow(times(x, once), y) {
		t.Errorf("Fits(%v, %v) = %v", a, b, got)
	}
}

// P8.1, P8.2: signs and parts held against another way's.
func TestPartsOfMany(t *testing.T) {
	for _, v := range append(handed(), small()...) {
		signs, plus, minus := Signs(v), Plus(v), Minus(v)
		if len(signs) != len(v) || len(plus) != len(v) || len(minus) != len(v) {
			t.Fatalf("%d, %d, %d places of %v", len(signs), len(plus), len(minus), v)
		}
		var support []int
		for i, n := range values(v, 0) {
			if n.Sign() != 0 {
				support = append(support, i)
			}
			above, below := n, new(big.Int)
			if n.Sign() < 0 {
				above, below = below, new(big.Int).Neg(n)
			}
			if signs[i] != n.Sign() || !oneForm(plus[i]) || !oneForm(minus[i]) || value(plus[i]).Cmp(above) != 0 || value(minus[i]).Cmp(below) != 0 {
				t.Errorf("place %d of %v: %d, %v, %v", i, v, signs[i], plus[i], minus[i])
			}
		}
		if !slices.Equal(Support(v), support) {
			t.Errorf("Support(%v) = %v", v, Support(v))
		}
	}
}

// P8.3: each is below itself, two that are below one another are the same, and it goes on.
func TestBelowIsAnOrder(t *testing.T) {
	all := few()
	for _, a := range all {
		if !Below(a, a) || !Below(nil, a) || !Below(padded(a), a) || !Below(a, padded(a)) || Below(a, nil) != vec.Nought(a) {
			t.Errorf("%v: itself, nought", a)
		}
		for _, b := range all {
			if (Below(a, b) && Below(b, a)) != vec.Same(a, b) {
				t.Errorf("%v, %v: below one another", a, b)
			}
			for _, c := range all {
				if Below(a, b) && Below(b, c) && !Below(a, c) {
					t.Errorf("%v, %v, %v: does not go on", a, b, c)
				}
			}
		}
	}
}

// P8.3: who is below agrees, and so does what is left, which is below too; the Norms of both are together b's.
func TestWhatIsLeft(t *testing.T) {
	all := append(handed(), few()...)
	found := 0
	for _, a := range all {
		for _, b := range all {
			rest := vec.Sub(b, a)
			if Below(a, b) != (Agree(a, b) && Agree(rest, b) && Agree(a, rest)) {
				t.Errorf("Below(%v, %v): %v, but by signs not", a, b, Below(a, b))
			}
			if !Below(a, b) {
				continue
			}
			found++
			if !Below(rest, b) || !whole.Same(vec.Norm(b), whole.Add(vec.Norm(a), vec.Norm(rest))) || Bits(a)&^Bits(b) != 0 {
				t.Errorf("%v, of which %v is left of %v", a, rest, b)
			}
		}
	}
	if found < 300 {
		t.Error("too few are below one another to tell:", found)
	}
}

// P8.3: v is Plus less Minus, both below v or its negative, and without a place in common.
func TestPlusLessMinus(t *testing.T) {
	for _, v := range append(handed(), few()...) {
		plus, minus := Plus(v), Minus(v)
		if !slices.EqualFunc(vec.Sub(plus, minus), vec.Add(v, nil), alike) || !Below(plus, v) || !Below(vec.Neg(minus), v) {
			t.Errorf("%v is not %v less %v", v, plus, minus)
		}
		if !vec.Nought(Minus(plus)) || !vec.Nought(Minus(minus)) || !vec.Same(Plus(plus), plus) || !vec.Same(Plus(vec.Neg(v)), minus) || Bits(plus)&Bits(minus) != 0 || Bits(plus)|Bits(minus) != Bits(v) {
			t.Errorf("%v: parts %v, %v", v, plus, minus)
		}
		if agree := Agree(v, vec.Neg(v)); agree != vec.Nought(v) {
			t.Errorf("%v agrees with its negative: %v", v, agree)
		}
	}
}

// P8.3: b less Fits times a is below b, and a is not below that any more, unless a is nought.
func TestTakenAway(t *testing.T) {
	all := append(handed(), few()...)
	for _, a := range all {
		for _, b := range all {
			often := Fits(a, b)
			rest := vec.Sub(b, vec.Times(a, often))
			if !Below(rest, b) || Below(a, rest) != vec.Nought(a) || whole.Sign(Fits(a, rest)) != 0 {
				t.Errorf("Fits(%v, %v) = %v: %v is left", a, b, often, rest)
			}
			if whole.Sign(often) > 0 != (Below(a, b) && !vec.Nought(a)) {
				t.Errorf("Fits(%v, %v) = %v, but Below: %v", a, b, often, Below(a, b))
			}
		}
	}
}

// The document's example.
func TestExample(t *testing.T) {
	if got := Fits(vector(1, 0, -2), vector(3, 5, -5)); !alike(got, whole.Of(2)) {
		t.Error(got)
	}
}

// call is one call by which vectors may be changed, kept or told.
type call struct {
	name string
	do   func(a, b api.Vec) api.Vec
}

// calls tells small answers as vectors too, so that all are held against others as such.
func calls() []call {
	truth := map[bool]int{true: 1}
	return []call{
		{"Signs", func(a, b api.Vec) api.Vec { return vec.Of(Signs(a)) }},
		{"Support", func(a, b api.Vec) api.Vec { return vec.Of(Support(a)) }},
		{"Bits", func(a, b api.Vec) api.Vec { return api.Vec{{Mag: []uint32{uint32(Bits(a)), uint32(Bits(a) >> 32)}}} }},
		{"Agree", func(a, b api.Vec) api.Vec { return vector(truth[Agree(a, b)]) }},
		{"Below", func(a, b api.Vec) api.Vec { return vector(truth[Below(a, b)]) }},
		{"Plus", func(a, b api.Vec) api.Vec { return Plus(a) }},
		{"Minus", func(a, b api.Vec) api.Vec { return Minus(a) }},
		{"Fits", func(a, b api.Vec) api.Vec { return api.Vec{Fits(a, b)} }},
	}
}

// guard is a vector with marks behind its places and behind each place's limbs; places and limbs are all of that memory.
type guard struct {
	v, places api.Vec
	limbs     [][]uint32
}

func guarded(v api.Vec) guard {
	var g guard
	for _, a := range v {
		memory := append(slices.Clone(a.Mag), mark, mark, mark)
		g.limbs = append(g.limbs, memory)
		g.places = append(g.places, api.Int{Neg: a.Neg, Mag: memory[:len(a.Mag)]})
	}
	g.places = append(g.places, whole.Of(mark), whole.Of(-1))
	g.v = g.places[:len(v)]
	return g
}

// untouched tells whether all of the memory is as it is made of v.
func (g guard) untouched(v api.Vec) bool {
	fresh := guarded(v)
	return slices.EqualFunc(g.places, fresh.places, alike) && slices.EqualFunc(g.limbs, fresh.limbs, slices.Equal)
}

// copied is v in memory of its own.
func copied(v api.Vec) api.Vec {
	var out api.Vec
	for _, a := range v {
		out = append(out, api.Int{Neg: a.Neg, Mag: slices.Clip(slices.Clone(a.Mag))})
	}
	return out
}

// scribble spoils an Int's limbs, and what lies behind them.
func scribble(a api.Int) {
	for i := range a.Mag[:cap(a.Mag)] {
		a.Mag[:cap(a.Mag)][i] = mark + 1
	}
}

// spoil scribbles on a vector's places, and on what lies behind.
func spoil(v api.Vec) {
	for i, a := range v[:cap(v)] {
		scribble(a)
		v[:cap(v)][i] = whole.Of(mark)
	}
}

// P8.1, P8.2 with R2.
func TestHandedInStays(t *testing.T) {
	for _, c := range calls() {
		for _, a := range few() {
			for _, b := range few() {
				checkStays(t, c, a, b)
			}
		}
	}
}

func checkStays(t *testing.T, c call, a, b api.Vec) {
	t.Helper()
	inA, inB := guarded(a), guarded(b)
	want := copied(c.do(copied(a), copied(b)))
	got := c.do(inA.v, inB.v)
	spoil(c.do(inA.v, inB.v))
	if !slices.EqualFunc(got, want, alike) {
		t.Errorf("%s of %v, %v hangs on what lies behind, or two calls' answers share memory", c.name, a, b)
	}
	for i := range got {
		scribble(got[i])
		if !slices.EqualFunc(got[i+1:], want[i+1:], alike) {
			t.Errorf("%s of %v, %v: place %d shares memory with one behind it", c.name, a, b, i)
		}
	}
	if !inA.untouched(a) || !inB.untouched(b) {
		t.Errorf("%s of %v, %v: what is handed in is changed or shared", c.name, a, b)
	}
}

// P8.1 with R2: each list of ints is the caller's own.
func TestListsAreNew(t *testing.T) {
	v := vector(3, 0, -1, 0, 7)
	for _, tell := range []func(api.Vec) []int{Signs, Support} {
		first, second := tell(v), tell(v)
		want := slices.Clone(first)
		for i := range second[:cap(second)] {
			second[:cap(second)][i] = mark
		}
		if !slices.Equal(first, want) || !slices.Equal(tell(v), want) {
			t.Error("two answers share memory:", first, want)
		}
	}
}

// P8.1, P8.2 with R2: one vector handed in twice, and vectors that share places and limbs.
func TestSharedMemory(t *testing.T) {
	mag := []uint32{top, 3, 0}
	v := api.Vec{{Neg: true, Mag: mag}, {Mag: mag[1:]}, {Neg: true, Mag: mag}, {Mag: mag[2:]}}
	was := guarded(v)
	if !Below(v, v) || !Agree(v, v) || !alike(Fits(v, v), whole.Of(1)) {
		t.Error("of one and itself")
	}
	if Below(v[1:], v) || Agree(v[1:], v) || whole.Sign(Fits(v[1:], v)) != 0 || !Below(v[:1], v) || !alike(Fits(v[2:], v), whole.Of(1)) {
		t.Error("of its parts")
	}
	expect(t, Plus(v), vector(0, 3, 0, 0), "Plus")
	expect(t, Minus(v), vector(3<<32+top, 0, 3<<32+top, 0), "Minus")
	if !was.untouched(v) || !slices.Equal(mag, []uint32{top, 3, 0}) {
		t.Error("what was handed in is changed:", v)
	}
}
