package whole

import (
	"cmp"
	"math"
	"math/big"
	"math/rand"
	"slices"
	"testing"

	"quincunx/api"
)

const (
	top  = math.MaxUint32
	mark = 0xdeadbeef
)

// edges are limbs at which carries, borrows and highest bits turn.
var edges = []uint32{0, 1, 1 << 31, top}

// rows are all rows of up to three edges: noughts inside, and behind the last limb, among them.
func rows() [][]uint32 {
	all := [][]uint32{nil}
	last := all
	for range 3 {
		var next [][]uint32
		for _, r := range last {
			for _, x := range edges {
				next = append(next, append(slices.Clone(r), x))
			}
		}
		all = append(all, next...)
		last = next
	}
	return all
}

// handed are Ints as they may be handed in: each row with either sign, longer ones, noughts of many limbs.
func handed() []api.Int {
	mags := append(rows(), []uint32{}, []uint32{7}, []uint32{10, 0}, []uint32{0, 0, 0, 1, 0, 0},
		slices.Repeat([]uint32{top}, 9), make([]uint32, 100))
	chance := rand.New(rand.NewSource(4))
	for n := range 12 {
		mag := make([]uint32, n)
		for i := range mag {
			mag[i] = chance.Uint32()
		}
		mags = append(mags, mag)
	}
	var all []api.Int
	for _, mag := range mags {
		all = append(all, api.Int{Mag: mag}, api.Int{Neg: true, Mag: mag})
	}
	return all
}

// few are Ints of every kind, but not so many that all threes of them take long.
func few() []api.Int {
	var all []api.Int
	for _, mag := range [][]uint32{nil, {0, 0}, {1}, {2, 0}, {top}, {0, 1}, {top, top}, {5, 0, 1 << 31}, {1, 2, 3, 4, 0}} {
		all = append(all, api.Int{Mag: mag}, api.Int{Neg: true, Mag: mag})
	}
	return all
}

func value(a api.Int) *big.Int {
	v := new(big.Int)
	for _, x := range slices.Backward(a.Mag) {
		v.Lsh(v, 32)
		v.Or(v, big.NewInt(int64(x)))
	}
	if a.Neg {
		v.Neg(v)
	}
	return v
}

// form is a number's one form, by another way than the package's.
func form(v *big.Int) api.Int {
	a := api.Int{Neg: v.Sign() < 0}
	low := big.NewInt(top)
	for v = new(big.Int).Abs(v); v.Sign() > 0; v.Rsh(v, 32) {
		a.Mag = append(a.Mag, uint32(new(big.Int).And(v, low).Uint64()))
	}
	return a
}

// alike holds two Ints against each other limb by limb: not only by their values.
func alike(a, b api.Int) bool {
	return a.Neg == b.Neg && slices.Equal(a.Mag, b.Mag)
}

func expect(t *testing.T, got api.Int, want *big.Int, what ...any) {
	t.Helper()
	if !alike(got, form(want)) {
		t.Errorf("got %v, want %v, of %v", got, form(want), what)
	}
}

// ints are those about 0, about the limbs' ends and about the ends of the ints, and chance ones.
func ints() []int {
	all := []int{math.MinInt, math.MinInt + 1, math.MinInt + 2, math.MaxInt, math.MaxInt - 1}
	for n := range 63 {
		for d := -2; d <= 2; d++ {
			all = append(all, 1<<n+d, -(1<<n + d))
		}
	}
	chance := rand.New(rand.NewSource(5))
	for range 500 {
		all = append(all, int(chance.Uint64()))
	}
	return all
}

// P4.1: the least and the greatest int among them.
func TestOf(t *testing.T) {
	for _, n := range ints() {
		expect(t, Of(n), big.NewInt(int64(n)), "Of", n)
	}
}

// P4.1.
func TestSmallUndoesOf(t *testing.T) {
	for _, n := range ints() {
		a := Of(n)
		for range 4 {
			if got, ok := Small(a); !ok || got != n {
				t.Errorf("Small(%v) = %d, %v, want %d", a, got, ok, n)
			}
			a.Mag = append(a.Mag, 0)
		}
	}
}

// P4.1: 0 beside false, of what is no int of 64 bits.
func TestSmall(t *testing.T) {
	for _, a := range handed() {
		checkSmall(t, a)
	}
	for _, end := range []int{math.MinInt, math.MaxInt} {
		for d := int64(-3); d <= 3; d++ {
			a := form(new(big.Int).Add(big.NewInt(int64(end)), big.NewInt(d)))
			for range 3 {
				checkSmall(t, a)
				a.Mag = append(a.Mag, 0)
			}
		}
	}
	// As their lowest limbs alone they would fit.
	for n := 2; n < 10; n++ {
		for _, neg := range []bool{false, true} {
			mag := make([]uint32, n+1)
			mag[0], mag[n] = 5, 1
			checkSmall(t, api.Int{Neg: neg, Mag: mag})
		}
	}
}

func checkSmall(t *testing.T, a api.Int) {
	t.Helper()
	got, ok := Small(a)
	v := value(a)
	if ok != v.IsInt64() {
		t.Errorf("Small(%v): %v", a, ok)
	}
	if ok && int64(got) != v.Int64() || !ok && got != 0 {
		t.Errorf("Small(%v) = %d, %v", a, got, ok)
	}
}

// P4.1: whatever form is handed in.
func TestOneNumber(t *testing.T) {
	for _, a := range handed() {
		v := value(a)
		expect(t, Form(a), v, "Form", a)
		expect(t, Neg(a), new(big.Int).Neg(v), "Neg", a)
		expect(t, Abs(a), new(big.Int).Abs(v), "Abs", a)
		if got := Sign(a); got != v.Sign() {
			t.Errorf("Sign(%v) = %d", a, got)
		}
	}
}

// P4.1: 0 is told without a sign and without limbs, and counts as 0, in all its forms.
func TestNought(t *testing.T) {
	other := api.Int{Neg: true, Mag: []uint32{3, 0}}
	for _, mag := range [][]uint32{nil, {}, {0}, {0, 0}, make([]uint32, 100)} {
		for _, neg := range []bool{false, true} {
			a := api.Int{Neg: neg, Mag: mag}
			told := []api.Int{Form(a), Neg(a), Abs(a), Add(a, a), Add(a, Neg(a)), Sub(a, a), Mul(a, a), Mul(a, other), Mul(other, a), Add(other, Neg(other)), Sub(other, other)}
			for i, got := range told {
				if got.Neg || len(got.Mag) != 0 {
					t.Errorf("answer %d of %v: %v", i, a, got)
				}
			}
			if Sign(a) != 0 || !Same(a, Of(0)) || !Same(api.Int{Neg: true}, a) || Same(a, other) {
				t.Errorf("%v is not 0", a)
			}
			if Cmp(a, api.Int{}) != 0 || Cmp(a, api.Int{Neg: true, Mag: []uint32{0}}) != 0 || Cmp(a, other) != 1 || Cmp(other, a) != -1 || Cmp(a, Of(1)) != -1 {
				t.Errorf("Cmp of %v", a)
			}
			if n, ok := Small(a); n != 0 || !ok {
				t.Errorf("Small(%v) = %d, %v", a, n, ok)
			}
			for _, got := range []api.Int{Add(a, other), Add(other, a), Sub(other, a), Neg(Sub(a, other))} {
				if !alike(got, Of(-3)) {
					t.Errorf("%v beside -3: %v", a, got)
				}
			}
		}
	}
}

// P4.1.
func TestCmpAndSame(t *testing.T) {
	for _, a := range handed() {
		for _, b := range handed() {
			want := value(a).Cmp(value(b))
			if got := Cmp(a, b); got != want {
				t.Errorf("Cmp(%v, %v) = %d", a, b, got)
			}
			if got := Same(a, b); got != (want == 0) {
				t.Errorf("Same(%v, %v): %v", a, b, got)
			}
		}
	}
}

// P4.1: as ints are.
func TestCmpOfInts(t *testing.T) {
	for i, n := range ints() {
		for _, m := range ints()[max(0, i-20):min(i+20, len(ints()))] {
			if got := Cmp(Of(n), Of(m)); got != cmp.Compare(n, m) {
				t.Errorf("Cmp of %d, %d: %d", n, m, got)
			}
		}
	}
}

// P4.2: sums that come out as 0 among them.
func TestAddSubMul(t *testing.T) {
	all := handed()
	for _, a := range all {
		v := value(a)
		for _, b := range all {
			w := value(b)
			expect(t, Add(a, b), new(big.Int).Add(v, w), "Add", a, b)
			expect(t, Sub(a, b), new(big.Int).Sub(v, w), "Sub", a, b)
			expect(t, Mul(a, b), new(big.Int).Mul(v, w), "Mul", a, b)
		}
	}
}

// P4.2: carries and borrows through all limbs, and far beyond an int.
func TestLong(t *testing.T) {
	full := api.Int{Mag: slices.Repeat([]uint32{top}, 300)}
	past := form(new(big.Int).Lsh(big.NewInt(1), 9600))
	for _, turn := range []func(api.Int) api.Int{Form, Neg} {
		a, b := turn(full), turn(past)
		one := turn(Of(1))
		if got := Add(a, one); !alike(got, b) {
			t.Error("a carry through all limbs:", got)
		}
		if got := Sub(b, one); !alike(got, a) {
			t.Error("a borrow through all limbs:", got)
		}
		if got := Sub(a, b); !alike(got, Neg(one)) {
			t.Error("neighbours:", got)
		}
		if Cmp(a, b) != -Sign(one) || Same(a, b) {
			t.Error("neighbours are told as one, or the wrong way round")
		}
		expect(t, Mul(a, b), new(big.Int).Mul(value(a), value(b)), "Mul")
		expect(t, Mul(a, Neg(a)), new(big.Int).Mul(value(a), value(Neg(a))), "Mul")
	}
}

// The document's examples.
func TestExamples(t *testing.T) {
	if got := Of(-1); !alike(got, api.Int{Neg: true, Mag: []uint32{1}}) {
		t.Error(got)
	}
	if got, ok := Small(Of(-1 << 63)); !ok || got != -1<<63 {
		t.Error(got, ok)
	}
}

// P4.3: sums and products in any order.
func TestAnyOrder(t *testing.T) {
	for _, a := range few() {
		for _, b := range few() {
			if !alike(Add(a, b), Add(b, a)) || !alike(Mul(a, b), Mul(b, a)) {
				t.Errorf("%v, %v: turned round", a, b)
			}
			for _, c := range few() {
				if !alike(Add(Add(a, b), c), Add(a, Add(b, c))) {
					t.Errorf("%v, %v, %v: sums", a, b, c)
				}
				if !alike(Mul(Mul(a, b), c), Mul(a, Mul(b, c))) {
					t.Errorf("%v, %v, %v: products", a, b, c)
				}
			}
		}
	}
}

// P4.3: products go over sums; 0 and 1 are the ring's.
func TestRing(t *testing.T) {
	for _, a := range few() {
		if !alike(Add(a, Of(0)), Form(a)) || !alike(Mul(a, Of(1)), Form(a)) {
			t.Errorf("%v with 0, with 1", a)
		}
		if !alike(Add(a, Neg(a)), Of(0)) || !alike(Mul(a, Of(-1)), Neg(a)) || !alike(Neg(Neg(a)), Form(a)) {
			t.Errorf("%v with its negative", a)
		}
		for _, b := range few() {
			if !alike(Sub(a, b), Add(a, Neg(b))) || !alike(Add(Sub(a, b), b), Form(a)) {
				t.Errorf("%v, %v: Sub does not undo Add", a, b)
			}
			for _, c := range few() {
				if !alike(Mul(a, Add(b, c)), Add(Mul(a, b), Mul(a, c))) || !alike(Mul(Sub(b, c), a), Sub(Mul(b, a), Mul(c, a))) {
					t.Errorf("%v, %v, %v: products over sums", a, b, c)
				}
			}
		}
	}
}

// P4.3: Cmp goes with sums, and with products by what is above 0.
func TestOrderKept(t *testing.T) {
	for _, a := range few() {
		for _, b := range few() {
			want := Cmp(a, b)
			if Cmp(b, a) != -want || Sign(Sub(a, b)) != want || Cmp(Neg(b), Neg(a)) != want {
				t.Errorf("%v, %v: turned round", a, b)
			}
			for _, c := range few() {
				if Cmp(Add(a, c), Add(b, c)) != want || Cmp(Sub(a, c), Sub(b, c)) != want {
					t.Errorf("%v, %v, %v: with sums", a, b, c)
				}
				if Cmp(Mul(a, c), Mul(b, c)) != want*Sign(c) {
					t.Errorf("%v, %v, %v: with products", a, b, c)
				}
				if want <= 0 && Cmp(b, c) <= 0 && Cmp(a, c) > 0 {
					t.Errorf("%v, %v, %v: no order", a, b, c)
				}
			}
		}
	}
}

// call is one call by which a number may be changed, kept or told.
type call struct {
	name string
	do   func(a, b api.Int) api.Int
}

func calls() []call {
	return []call{
		{"Small", func(a, b api.Int) api.Int { n, _ := Small(a); return form(big.NewInt(int64(n))) }},
		{"Form", func(a, b api.Int) api.Int { return Form(a) }},
		{"Sign", func(a, b api.Int) api.Int { return form(big.NewInt(int64(Sign(a)))) }},
		{"Neg", func(a, b api.Int) api.Int { return Neg(a) }},
		{"Abs", func(a, b api.Int) api.Int { return Abs(a) }},
		{"Cmp", func(a, b api.Int) api.Int { return form(big.NewInt(int64(Cmp(a, b)))) }},
		{"Same", func(a, b api.Int) api.Int { return api.Int{Neg: Same(a, b)} }},
		{"Add", Add},
		{"Sub", Sub},
		{"Mul", Mul},
	}
}

// guarded is a with marks behind its limbs, and all of that memory.
func guarded(a api.Int) (b api.Int, memory []uint32) {
	memory = append(slices.Clone(a.Mag), mark, mark, mark)
	return api.Int{Neg: a.Neg, Mag: memory[:len(a.Mag)]}, memory
}

func bare(a api.Int) api.Int {
	return api.Int{Neg: a.Neg, Mag: slices.Clip(slices.Clone(a.Mag))}
}

func scribble(a api.Int) {
	all := a.Mag[:cap(a.Mag)]
	for i := range all {
		all[i] = mark + 1
	}
}

// P4.1, P4.2 with R2.
func TestHandedInStays(t *testing.T) {
	for _, c := range calls() {
		for _, p := range few() {
			for _, q := range few() {
				a, aMemory := guarded(p)
				b, bMemory := guarded(q)
				aWas, bWas := slices.Clone(aMemory), slices.Clone(bMemory)
				first := c.do(a, b)
				kept := bare(first)
				if !alike(first, c.do(bare(p), bare(q))) {
					t.Errorf("%s of %v, %v hangs on what lies behind", c.name, p, q)
				}
				scribble(c.do(a, b))
				if !slices.Equal(aMemory, aWas) || !slices.Equal(bMemory, bWas) {
					t.Errorf("%s of %v, %v: what was handed in is changed or shared", c.name, p, q)
				}
				if a.Neg != p.Neg || b.Neg != q.Neg {
					t.Errorf("%s of %v, %v: a sign is changed", c.name, p, q)
				}
				if !alike(first, kept) {
					t.Errorf("%s of %v, %v: two answers share memory", c.name, p, q)
				}
			}
		}
	}
}

// P4.1 with R2: each answer of Of is the caller's own.
func TestOfIsNew(t *testing.T) {
	for _, n := range ints() {
		first := Of(n)
		scribble(Of(n))
		if v := big.NewInt(int64(n)); !alike(first, form(v)) || !alike(Of(n), form(v)) {
			t.Errorf("Of(%d): two answers share memory", n)
		}
	}
}

// P4.2 with R2: one number handed in twice, and numbers that share limbs.
func TestOneNumberTwice(t *testing.T) {
	mag := []uint32{top, 3, 0}
	a := api.Int{Neg: true, Mag: mag}
	b := api.Int{Mag: mag[1:]}
	expect(t, Add(a, a), new(big.Int).Mul(value(a), big.NewInt(2)), "Add")
	expect(t, Sub(a, a), new(big.Int), "Sub")
	expect(t, Mul(a, a), new(big.Int).Mul(value(a), value(a)), "Mul")
	expect(t, Add(a, b), new(big.Int).Add(value(a), value(b)), "Add of parts")
	expect(t, Sub(b, a), new(big.Int).Sub(value(b), value(a)), "Sub of parts")
	expect(t, Mul(b, a), new(big.Int).Mul(value(b), value(a)), "Mul of parts")
	if !slices.Equal(mag, []uint32{top, 3, 0}) || !a.Neg || b.Neg {
		t.Error("what was handed in is changed:", a, b)
	}
}
