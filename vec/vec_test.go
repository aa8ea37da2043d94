package vec

import (
	"cmp"
	"math"
	"math/big"
	"math/rand"
	"slices"
	"testing"

	"quincunx/api"
	"quincunx/whole"
)

const (
	top  = math.MaxUint32
	mark = 0xdeadbeef
)

func value(a api.Int) *big.Int {
	v := new(big.Int)
	for _, x := range slices.Backward(a.Mag) {
		v.Lsh(v, 32)
		v.Or(v, big.NewInt(int64(x)))
	}
	if a.Neg {
		v.Neg(v)
	}
	return v
}

// form is a number's one form, by another way than the program's.
func form(v *big.Int) api.Int {
	a := api.Int{Neg: v.Sign() < 0}
	low := big.NewInt(top)
	for v = new(big.Int).Abs(v); v.Sign() > 0; v.Rsh(v, 32) {
		a.Mag = append(a.Mag, uint32(new(big.Int).And(v, low).Uint64()))
	}
	return a
}

// alike holds two Ints against each other limb by limb: not only by their values.
func alike(a, b api.Int) bool {
	return a.Neg == b.Neg && slices.Equal(a.Mag, b.Mag)
}

// vector is made by another way than the package's.
func vector(l ...int) api.Vec {
	var v api.Vec
	for _, n := range l {
		v = append(v, form(big.NewInt(int64(n))))
	}
	return v
}

// padded is a with noughts behind its limbs, and 0 with a sign too.
func padded(a api.Int) api.Int {
	return api.Int{Neg: a.Neg || len(a.Mag) == 0, Mag: append(slices.Clone(a.Mag), 0, 0)}
}

func paddedVector(v api.Vec) api.Vec {
	var out api.Vec
	for _, a := range v {
		out = append(out, padded(a))
	}
	return out
}

// noughts are 0 in all its forms.
func noughts() api.Vec {
	var all api.Vec
	for _, mag := range [][]uint32{nil, {}, {0}, {0, 0}, make([]uint32, 100)} {
		all = append(all, api.Int{Mag: mag}, api.Int{Neg: true, Mag: mag})
	}
	return all
}

// numbers are Ints as they may be handed in: with either sign, noughts inside and behind, 0 in all its forms, some of many limbs.
func numbers() []api.Int {
	mags := [][]uint32{
		{1}, {1, 0}, {2}, {3, 0, 0}, {1 << 31}, {top}, {top, 0}, {0, 1}, {top, top}, {0, 1 << 31}, {0, 0, 1 << 31},
		{5, 0, 1 << 31, 0}, {1, 2, 3, 4, 0}, slices.Repeat([]uint32{top}, 9), slices.Repeat([]uint32{top}, 200),
	}
	all := []api.Int(noughts())
	for _, mag := range mags {
		all = append(all, api.Int{Mag: mag}, api.Int{Neg: true, Mag: mag})
	}
	return all
}

// chosen is a vector of n of the numbers.
func chosen(chance *rand.Rand, n int) api.Vec {
	all := numbers()
	var v api.Vec
	for range n {
		v = append(v, all[chance.Intn(len(all))])
	}
	return v
}

// handed are vectors as they may be handed in, of many lengths, without places among them.
func handed() []api.Vec {
	long := api.Int{Neg: true, Mag: slices.Repeat([]uint32{top}, 30)}
	all := []api.Vec{
		nil, {}, noughts(), numbers(), vector(0), vector(0, 0, 0), vector(1), vector(-1), vector(0, 0, 1), vector(0, 0, -1), vector(1, -2, 3), vector(5, 7),
		vector(-5, -7), vector(math.MinInt, math.MaxInt), vector(math.MaxInt, math.MinInt, -1), {long}, {whole.Of(0), long, whole.Of(-2)},
		{whole.Mul(long, long), whole.Neg(long)}, make(api.Vec, 64), make(api.Vec, 70),
	}
	for _, v := range slices.Clone(all) {
		all = append(all, paddedVector(v))
	}
	chance := rand.New(rand.NewSource(7))
	for _, n := range []int{1, 1, 2, 2, 3, 3, 4, 5, 8, 13, 63, 64, 65, 90} {
		all = append(all, chosen(chance, n))
	}
	return all
}

// few are vectors of every kind, but not so many that all threes of them take long.
func few() []api.Vec {
	long := api.Int{Neg: true, Mag: slices.Repeat([]uint32{top}, 12)}
	return []api.Vec{
		nil, noughts()[:3], vector(1), vector(-1), vector(1, 0, 0), vector(0, 1), vector(0, -1, 4), vector(1, -2, 3), vector(5, 7),
		paddedVector(vector(-5, 0, 7, 2)), vector(-5, 0, 7), vector(math.MinInt, math.MaxInt), {long, whole.Of(-3)}, {whole.Neg(long)},
		{whole.Of(0), padded(long), whole.Mul(long, long)},
	}
}

// placeOf is v's value at a place, 0 behind its end.
func placeOf(v api.Vec, i int) *big.Int {
	if i >= len(v) {
		return new(big.Int)
	}
	return value(v[i])
}

// expect holds got against n places that want tells, limb by limb.
func expect(t *testing.T, got api.Vec, n int, want func(i int) *big.Int, what ...any) {
	t.Helper()
	if len(got) != n {
		t.Errorf("%d places, want %d, of %v", len(got), n, what)
		return
	}
	for i, a := range got {
		if w := form(want(i)); !alike(a, w) {
			t.Errorf("place %d is %v, want %v, of %v", i, a, w, what)
		}
	}
}

// expectInts holds got against ints.
func expectInts(t *testing.T, got api.Vec, want []int, what ...any) {
	t.Helper()
	expect(t, got, len(want), func(i int) *big.Int { return big.NewInt(int64(want[i])) }, what...)
}

func expectInt(t *testing.T, got api.Int, want *big.Int, what ...any) {
	t.Helper()
	if !alike(got, form(want)) {
		t.Errorf("got %v, want %v, of %v", got, form(want), what)
	}
}

// P7.1: no ints, the least and the greatest int, and as many as there are, beyond 64 too.
func TestOf(t *testing.T) {
	many := make([]int, 1000)
	for i := range many {
		many[i] = (i - 500) << 40
	}
	for _, l := range [][]int{
		nil, {}, {0}, {0, 0}, {1}, {-1}, {1, -2, 3}, {math.MinInt}, {math.MaxInt}, {math.MinInt, 0, math.MaxInt, math.MinInt + 1},
		{top, -top, top + 1, -top - 1}, many,
	} {
		was := slices.Clone(l)
		expectInts(t, Of(l), was, "Of", was)
		if !slices.Equal(l, was) {
			t.Errorf("Of changed %v into %v", was, l)
		}
	}
}

// P7.1: n below 0, 0, 64, and above it.
func TestZero(t *testing.T) {
	for _, c := range [][2]int{
		{math.MinInt, 0}, {-65, 0}, {-1, 0}, {0, 0}, {1, 1}, {2, 2}, {12, 12}, {63, 63}, {64, 64}, {65, 64}, {66, 64}, {128, 64}, {1 << 32, 64}, {math.MaxInt, 64},
	} {
		expectInts(t, Zero(c[0]), make([]int, c[1]), "Zero", c[0])
	}
}

// P7.1: two of different lengths on either side, and without places; the answer is as long as the longer one.
func TestAddAndSub(t *testing.T) {
	for _, c := range []struct{ a, b, sum, rest []int }{
		{nil, nil, nil, nil},
		{nil, []int{4}, []int{4}, []int{-4}},
		{[]int{4}, nil, []int{4}, []int{4}},
		{[]int{4, -5}, []int{}, []int{4, -5}, []int{4, -5}},
		{nil, []int{0, 0}, []int{0, 0}, []int{0, 0}},
		{[]int{1}, []int{2, 3}, []int{3, 3}, []int{-1, -3}},
		{[]int{2, 3}, []int{1}, []int{3, 3}, []int{1, 3}},
		{[]int{1, -2, 3}, []int{5, 7}, []int{6, 5, 3}, []int{-4, -9, 3}},
		{[]int{5, 7}, []int{1, -2, 3}, []int{6, 5, 3}, []int{4, 9, -3}},
		{[]int{1, 2}, []int{-1, -2}, []int{0, 0}, []int{2, 4}},
		{[]int{1, 2}, []int{1, 2}, []int{2, 4}, []int{0, 0}},
		{[]int{0, 0, 0}, []int{1}, []int{1, 0, 0}, []int{-1, 0, 0}},
	} {
		for _, turn := range []func(api.Vec) api.Vec{slices.Clone[api.Vec], paddedVector} {
			a, b := turn(vector(c.a...)), turn(vector(c.b...))
			expectInts(t, Add(a, b), c.sum, "Add", a, b)
			expectInts(t, Sub(a, b), c.rest, "Sub", a, b)
		}
	}
}

// P7.1: held against another way's answers.
func TestSums(t *testing.T) {
	for _, a := range handed() {
		for _, b := range handed() {
			n := max(len(a), len(b))
			expect(t, Add(a, b), n, func(i int) *big.Int { return new(big.Int).Add(placeOf(a, i), placeOf(b, i)) }, "Add", a, b)
			expect(t, Sub(a, b), n, func(i int) *big.Int { return new(big.Int).Sub(placeOf(a, i), placeOf(b, i)) }, "Sub", a, b)
		}
	}
}

// P7.1: a sum of ints that is no int any more.
func TestPastTheInts(t *testing.T) {
	a, b := vector(math.MaxInt, math.MinInt), vector(math.MaxInt, math.MinInt)
	expect(t, Add(a, b), 2, func(i int) *big.Int { return new(big.Int).Lsh(value(a[i]), 1) }, "Add")
	expect(t, Neg(a), 2, func(i int) *big.Int { return new(big.Int).Neg(value(a[i])) }, "Neg")
	expect(t, Times(a, b[1]), 2, func(i int) *big.Int { return new(big.Int).Mul(value(a[i]), value(b[1])) }, "Times")
	expectInt(t, Norm(a), new(big.Int).SetUint64(math.MaxUint64), "Norm")
}

// P7.1: 0 stays 0, without a sign.
func TestNeg(t *testing.T) {
	for _, c := range [][2][]int{{nil, nil}, {{0}, {0}}, {{1, -2, 0}, {-1, 2, 0}}} {
		expectInts(t, Neg(vector(c[0]...)), c[1], "Neg", c[0])
	}
	for _, v := range handed() {
		expect(t, Neg(v), len(v), func(i int) *big.Int { return new(big.Int).Neg(value(v[i])) }, "Neg", v)
	}
}

// P7.1: by 0, in all its forms, as many noughts as there are places.
func TestTimes(t *testing.T) {
	for _, v := range handed() {
		for _, x := range numbers() {
			expect(t, Times(v, x), len(v), func(i int) *big.Int { return new(big.Int).Mul(value(v[i]), value(x)) }, "Times", v, x)
		}
		for _, x := range noughts() {
			expectInts(t, Times(v, x), make([]int, len(v)), "Times", v, x)
		}
	}
	expectInts(t, Times(vector(1, -2, 3), whole.Of(-3)), []int{-3, 6, -9}, "Times")
}

// P7.1: to fewer places, to as many, to more than there are; n as Zero's.
func TestCut(t *testing.T) {
	for _, c := range []struct {
		v    []int
		n    int
		want []int
	}{
		{nil, 0, nil}, {nil, -1, nil}, {nil, 2, []int{0, 0}}, {nil, 70, make([]int, 64)},
		{[]int{1, -2, 3}, math.MinInt, nil}, {[]int{1, -2, 3}, -1, nil}, {[]int{1, -2, 3}, 0, nil},
		{[]int{1, -2, 3}, 1, []int{1}}, {[]int{1, -2, 3}, 2, []int{1, -2}}, {[]int{1, -2, 3}, 3, []int{1, -2, 3}},
		{[]int{1, -2, 3}, 4, []int{1, -2, 3, 0}}, {[]int{1, -2, 3}, 6, []int{1, -2, 3, 0, 0, 0}},
		{[]int{0, 0}, 1, []int{0}}, {[]int{0, 0}, 3, []int{0, 0, 0}},
	} {
		expectInts(t, Cut(vector(c.v...), c.n), c.want, "Cut", c.v, c.n)
		expectInts(t, Cut(paddedVector(vector(c.v...)), c.n), c.want, "Cut, padded", c.v, c.n)
	}
	for _, v := range handed() {
		for _, n := range []int{math.MinInt, -64, -1, 0, 1, 2, 3, len(v) - 1, len(v), len(v) + 1, 63, 64, 65, 89, 90, 1 << 40, math.MaxInt} {
			expect(t, Cut(v, n), len(Zero(n)), func(i int) *big.Int { return placeOf(v, i) }, "Cut", v, n)
		}
	}
}

// P7.1: what lies behind a vector's length is not its own, though Cut is asked for more.
func TestCutReadsNothingBehind(t *testing.T) {
	memory := vector(1, 2, 3, 4, 5)
	expectInts(t, Cut(memory[:2], 4), []int{1, 2, 0, 0}, "Cut")
	expectInts(t, Add(memory[:1], memory[:3]), []int{2, 2, 3}, "Add")
	expectInts(t, memory, []int{1, 2, 3, 4, 5}, "what lies behind")
}

// P7.2: two of different lengths on either side, and without places.
func TestDot(t *testing.T) {
	for _, c := range []struct {
		a, b []int
		want int64
	}{
		{nil, nil, 0}, {nil, []int{3}, 0}, {[]int{3}, nil, 0}, {[]int{3}, []int{-4}, -12},
		{[]int{1, -2, 3}, []int{5, 7}, -9}, {[]int{5, 7}, []int{1, -2, 3}, -9}, {[]int{1, -2, 3}, []int{1, -2, 3}, 14},
		{[]int{1, 1}, []int{1, -1}, 0}, {[]int{0, 0, 9}, []int{4, 4}, 0},
	} {
		for _, turn := range []func(api.Vec) api.Vec{slices.Clone[api.Vec], paddedVector} {
			a, b := turn(vector(c.a...)), turn(vector(c.b...))
			expectInt(t, Dot(a, b), big.NewInt(c.want), "Dot", a, b)
		}
	}
	for _, a := range handed() {
		for _, b := range handed() {
			want := new(big.Int)
			for i := range max(len(a), len(b)) {
				want.Add(want, new(big.Int).Mul(placeOf(a, i), placeOf(b, i)))
			}
			expectInt(t, Dot(a, b), want, "Dot", a, b)
		}
	}
}

// P7.2.
func TestNorm(t *testing.T) {
	for _, c := range []struct {
		v    []int
		want int64
	}{{nil, 0}, {[]int{0, 0}, 0}, {[]int{-7}, 7}, {[]int{7}, 7}, {[]int{1, -2, 3}, 6}, {[]int{-4, 4}, 8}} {
		expectInt(t, Norm(vector(c.v...)), big.NewInt(c.want), "Norm", c.v)
		expectInt(t, Norm(paddedVector(vector(c.v...))), big.NewInt(c.want), "Norm, padded", c.v)
	}
	for _, v := range handed() {
		want := new(big.Int)
		for _, a := range v {
			want.Add(want, new(big.Int).Abs(value(a)))
		}
		expectInt(t, Norm(v), want, "Norm", v)
	}
}

// P7.2: noughts alone in all their forms; one number that is none, at any place.
func TestNought(t *testing.T) {
	for _, v := range []api.Vec{nil, {}, noughts(), vector(0), make(api.Vec, 90), Zero(64)} {
		if !Nought(v) {
			t.Errorf("Nought(%v): false", v)
		}
		for i := range v {
			for _, x := range []api.Int{whole.Of(1), whole.Of(-1), {Mag: []uint32{0, 0, 1, 0}}} {
				w := slices.Clone(v)
				w[i] = x
				if Nought(w) {
					t.Errorf("Nought(%v): true", w)
				}
			}
		}
	}
}

// P7.2: in rising order, each class's vectors alike: the one is longer, and only noughts, or something else, stand behind the other's end.
func TestCmpAndSame(t *testing.T) {
	long := api.Int{Mag: slices.Repeat([]uint32{top}, 9)}
	minus := whole.Neg(long)
	classes := [][]api.Vec{
		{{minus, minus}},
		{{minus}, {minus, {}, {Neg: true}}},
		{{minus, long}, {padded(minus), padded(long), padded(api.Int{})}},
		{vector(math.MinInt), paddedVector(vector(math.MinInt, 0))},
		{vector(-1, 5), paddedVector(vector(-1, 5, 0, 0))},
		{vector(0, -1), vector(0, -1, 0)},
		{vector(0, -1, 9)},
		{vector(0, 0, -1)},
		{nil, {}, noughts(), vector(0), make(api.Vec, 64)},
		{vector(0, 0, 1), vector(0, 0, 1, 0)},
		{vector(0, 1, -1)},
		{vector(0, 1)},
		{vector(1, -9)},
		{vector(1), vector(1, 0), paddedVector(vector(1, 0, 0))},
		{vector(1, 0, 1)},
		{vector(2, math.MinInt)},
		{vector(math.MaxInt)},
		{{long, minus}},
		{{long}, {padded(long), padded(api.Int{})}},
		{{long, long}},
	}
	for i, l := range classes {
		for j, r := range classes {
			want := cmp.Compare(i, j)
			for _, a := range l {
				for _, b := range r {
					if got := Cmp(a, b); got != want {
						t.Errorf("Cmp(%v, %v) = %d, want %d", a, b, got, want)
					}
					if got := Same(a, b); got != (want == 0) {
						t.Errorf("Same(%v, %v): %v", a, b, got)
					}
				}
			}
		}
	}
}

// P7.2: held against another way's answers.
func TestCmpOfMany(t *testing.T) {
	for _, a := range handed() {
		for _, b := range handed() {
			want := 0
			for i := 0; i < max(len(a), len(b)) && want == 0; i++ {
				want = placeOf(a, i).Cmp(placeOf(b, i))
			}
			if got := Cmp(a, b); got != want {
				t.Errorf("Cmp(%v, %v) = %d, want %d", a, b, got, want)
			}
			if got := Same(a, b); got != (want == 0) {
				t.Errorf("Same(%v, %v): %v", a, b, got)
			}
		}
	}
}

// P7.3: Norm of a sum is at most the sum of the Norms, and just that where no signs are against each other.
func TestNormOfSums(t *testing.T) {
	for _, a := range handed() {
		if !whole.Same(Norm(Add(a, a)), whole.Mul(Norm(a), whole.Of(2))) || !whole.Same(Norm(Neg(a)), Norm(a)) {
			t.Errorf("Norm of %v with itself", a)
		}
		for _, b := range handed() {
			most := whole.Add(Norm(a), Norm(b))
			if whole.Cmp(Norm(Add(a, b)), most) > 0 || whole.Cmp(Norm(Sub(a, b)), most) > 0 {
				t.Errorf("Norm of %v with %v is greater than the Norms", a, b)
			}
		}
	}
}

// P7.3: Dot goes over sums, on either side, and over multiples.
func TestDotOverSums(t *testing.T) {
	for _, a := range few() {
		for _, b := range few() {
			if !alike(Dot(a, b), Dot(b, a)) || !alike(Dot(Neg(a), b), whole.Neg(Dot(a, b))) {
				t.Errorf("Dot of %v, %v: turned round", a, b)
			}
			for _, x := range []api.Int{whole.Of(0), whole.Of(-7), {Mag: []uint32{top, top, 0}}} {
				if !alike(Dot(Times(a, x), b), whole.Mul(Dot(a, b), x)) {
					t.Errorf("Dot of %v, %v times %v", a, b, x)
				}
			}
			for _, c := range few() {
				if !alike(Dot(Add(a, b), c), whole.Add(Dot(a, c), Dot(b, c))) || !alike(Dot(c, Sub(a, b)), whole.Sub(Dot(c, a), Dot(c, b))) {
					t.Errorf("Dot of %v, %v, %v: over sums", a, b, c)
				}
			}
		}
	}
}

// P7.3: Cmp goes with sums, and is an order.
func TestCmpWithSums(t *testing.T) {
	for _, a := range few() {
		for _, b := range few() {
			want := Cmp(a, b)
			if Cmp(b, a) != -want || Cmp(Sub(a, b), nil) != want || Cmp(Neg(b), Neg(a)) != want || Nought(Sub(a, b)) != (want == 0) {
				t.Errorf("%v, %v: turned round", a, b)
			}
			for _, c := range few() {
				if Cmp(Add(a, c), Add(b, c)) != want || Cmp(Add(c, a), Add(c, b)) != want || Cmp(Sub(a, c), Sub(b, c)) != want {
					t.Errorf("%v, %v, %v: with sums", a, b, c)
				}
				if want <= 0 && Cmp(b, c) <= 0 && Cmp(a, c) > 0 {
					t.Errorf("%v, %v, %v: no order", a, b, c)
				}
			}
		}
	}
}

// P7.1: sums may be put in any order, and Sub undoes Add.
func TestSumsInAnyOrder(t *testing.T) {
	for _, a := range few() {
		for _, b := range few() {
			if !slices.EqualFunc(Add(a, b), Add(b, a), alike) || !slices.EqualFunc(Sub(a, b), Neg(Sub(b, a)), alike) || !slices.EqualFunc(Sub(a, b), Add(a, Neg(b)), alike) {
				t.Errorf("%v, %v: turned round", a, b)
			}
			if !Same(Sub(Add(a, b), b), a) || !slices.EqualFunc(Cut(Sub(Add(a, b), b), len(a)), Cut(a, len(a)), alike) {
				t.Errorf("%v, %v: Sub does not undo Add", a, b)
			}
		}
	}
}

// The document's example.
func TestExample(t *testing.T) {
	expectInts(t, Add(Of([]int{1}), Of([]int{2, 3})), []int{3, 3}, "Add")
}

// call is one call by which vectors may be changed, kept or told.
type call struct {
	name string
	do   func(a, b api.Vec) api.Vec
}

// calls tells small answers as vectors too, so that all are held against others as such.
func calls() []call {
	truth := map[bool]int{true: 1}
	all := []call{
		{"Add", Add},
		{"Sub", Sub},
		{"Neg", func(a, b api.Vec) api.Vec { return Neg(a) }},
		{"Dot", func(a, b api.Vec) api.Vec { return api.Vec{Dot(a, b)} }},
		{"Norm", func(a, b api.Vec) api.Vec { return api.Vec{Norm(a)} }},
		{"Nought", func(a, b api.Vec) api.Vec { return vector(truth[Nought(a)]) }},
		{"Cmp", func(a, b api.Vec) api.Vec { return vector(Cmp(a, b)) }},
		{"Same", func(a, b api.Vec) api.Vec { return vector(truth[Same(a, b)]) }},
		{"Times", func(a, b api.Vec) api.Vec {
			if len(b) == 0 {
				return Times(a, api.Int{})
			}
			return Times(a, b[0])
		}},
	}
	for _, n := range []int{-1, 1, 3, 70} {
		all = append(all, call{"Cut", func(a, b api.Vec) api.Vec { return Cut(a, n) }})
	}
	return all
}

// guarded is v with marks behind its places and behind each place's limbs, and all of that memory.
func guarded(v api.Vec) (out, places api.Vec, limbs [][]uint32) {
	for _, a := range v {
		memory := append(slices.Clone(a.Mag), mark, mark, mark)
		limbs = append(limbs, memory)
		places = append(places, api.Int{Neg: a.Neg, Mag: memory[:len(a.Mag)]})
	}
	places = append(places, whole.Of(mark), whole.Of(-1))
	return places[:len(v)], places, limbs
}

func bare(v api.Vec) api.Vec {
	var out api.Vec
	for _, a := range v {
		out = append(out, api.Int{Neg: a.Neg, Mag: slices.Clip(slices.Clone(a.Mag))})
	}
	return out
}

func bareLimbs(l [][]uint32) [][]uint32 {
	var out [][]uint32
	for _, memory := range l {
		out = append(out, slices.Clone(memory))
	}
	return out
}

// scribble spoils an Int's limbs, and what lies behind them.
func scribble(a api.Int) {
	all := a.Mag[:cap(a.Mag)]
	for i := range all {
		all[i] = mark + 1
	}
}

// spoil scribbles on a vector's places, their limbs, and what lies behind.
func spoil(v api.Vec) {
	for i, a := range v {
		scribble(a)
		v[i] = whole.Of(mark)
	}
	behind := v[len(v):cap(v)]
	for i := range behind {
		behind[i] = whole.Of(mark)
	}
}

// P7.1, P7.2 with R2.
func TestHandedInStays(t *testing.T) {
	for _, c := range calls() {
		for _, a := range few() {
			for _, b := range few() {
				checkStays(t, c, a, b)
			}
		}
	}
}

func checkStays(t *testing.T, c call, a, b api.Vec) {
	t.Helper()
	inA, placesA, limbsA := guarded(a)
	inB, placesB, limbsB := guarded(b)
	wereA, wereB := bare(placesA), bare(placesB)
	limbsWereA, limbsWereB := bareLimbs(limbsA), bareLimbs(limbsB)
	want := bare(c.do(bare(a), bare(b)))
	got := c.do(inA, inB)
	if !slices.EqualFunc(got, want, alike) {
		t.Errorf("%s of %v, %v hangs on what lies behind", c.name, a, b)
	}
	spoil(c.do(inA, inB))
	if !slices.EqualFunc(placesA, wereA, alike) || !slices.EqualFunc(limbsA, limbsWereA, slices.Equal) {
		t.Errorf("%s of %v, %v: the first one handed in is changed or shared", c.name, a, b)
	}
	if !slices.EqualFunc(placesB, wereB, alike) || !slices.EqualFunc(limbsB, limbsWereB, slices.Equal) {
		t.Errorf("%s of %v, %v: the second one handed in is changed or shared", c.name, a, b)
	}
	if !slices.EqualFunc(got, want, alike) {
		t.Errorf("%s of %v, %v: two calls' answers share memory", c.name, a, b)
	}
	for i := range got {
		scribble(got[i])
		if rest := got[i+1:]; !slices.EqualFunc(rest, want[i+1:], alike) {
			t.Errorf("%s of %v, %v: place %d shares memory with one behind it", c.name, a, b, i)
		}
	}
}

// P7.1 with R2: each answer of Of and Zero is the caller's own, and so is each place of it.
func TestMadeIsNew(t *testing.T) {
	l := []int{5, 5, math.MinInt, 0, 5}
	for _, tell := range []func() api.Vec{func() api.Vec { return Of(l) }, func() api.Vec { return Zero(5) }} {
		first := tell()
		want := bare(first)
		spoil(tell())
		if !slices.EqualFunc(first, want, alike) || !slices.EqualFunc(tell(), want, alike) {
			t.Error("two answers share memory:", first)
		}
		for i := range first {
			scribble(first[i])
			if !slices.EqualFunc(first[i+1:], want[i+1:], alike) {
				t.Error("two places share memory:", first)
			}
		}
	}
	if !slices.Equal(l, []int{5, 5, math.MinInt, 0, 5}) {
		t.Error("what was handed in is changed:", l)
	}
}

// P7.1, P7.2 with R2: one vector handed in twice, vectors that share places, places that share limbs, and a number out of the vector.
func TestSharedMemory(t *testing.T) {
	mag := []uint32{top, 3, 0}
	v := api.Vec{{Neg: true, Mag: mag}, {Mag: mag[1:]}, {Neg: true, Mag: mag}}
	w := v[1:]
	was := bare(v)
	double := func(i int) *big.Int { return new(big.Int).Lsh(value(was[i]), 1) }
	expect(t, Add(v, v), 3, double, "Add")
	expectInts(t, Sub(v, v), []int{0, 0, 0}, "Sub")
	expect(t, Add(v, w), 3, func(i int) *big.Int { return new(big.Int).Add(placeOf(was, i), placeOf(was, i+1)) }, "Add of parts")
	expect(t, Times(v, v[0]), 3, func(i int) *big.Int { return new(big.Int).Mul(value(was[i]), value(was[0])) }, "Times")
	expectInt(t, Dot(w, w), new(big.Int).Add(big.NewInt(9), new(big.Int).Mul(value(was[2]), value(was[2]))), "Dot")
	if Cmp(v, v) != 0 || Cmp(v, w) != -1 || !Same(w, w) || Same(w, v) {
		t.Error("Cmp, Same")
	}
	if !slices.EqualFunc(v, was, alike) || !slices.Equal(mag, []uint32{top, 3, 0}) {
		t.Error("what was handed in is changed:", v)
	}
}
