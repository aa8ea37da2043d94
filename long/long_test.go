package long

import (
	"math"
	"math/big"
	"math/rand"
	"slices"
	"testing"

	"quincunx/limb"
)

const (
	top  = math.MaxUint32
	half = 1 << 31
	mark = 0xdeadbeef
)

// rows are all rows of up to n of these limbs: noughts inside, and behind the last limb, among them.
func rows(n int, limbs ...uint32) [][]uint32 {
	all := [][]uint32{nil}
	last := all
	for range n {
		var next [][]uint32
		for _, r := range last {
			for _, x := range limbs {
				next = append(next, append(slices.Clone(r), x))
			}
		}
		all = append(all, next...)
		last = next
	}
	return all
}

// hard are rows whose quotients are guessed too great by 1 or 2, or by the whole of a limb, and long ones.
func hard() [][]uint32 {
	ones := slices.Repeat([]uint32{top}, 40)
	return [][]uint32{
		{3, 0, half}, {1, 0, 1 << 29}, {0, 0, half, half - 1}, {1, 0, half}, {0, top - 1, half}, {top, half},
		{0, 0, 0x8000, 0x7fff}, {1, 0, 0x8000}, {0, 0xfffe, 0x8000}, {top, 0x8000},
		{0, 0, 0, half, half - 1}, {top, 0, half}, {0, top, top - 1}, {0, 0, 1}, {7, 7, 7, 7, 7, 7, 7},
		{5, 0, 0, 0, 0, 0, 0, 0, 0, 1, 0, 0}, ones, append([]uint32{0, 0, 1}, ones...), make([]uint32, 30),
	}
}

// chance are rows of up to n limbs by chance, the same ones in each run.
func chance(count, n int) [][]uint32 {
	dice := rand.New(rand.NewSource(7))
	all := make([][]uint32, count)
	for i := range all {
		all[i] = make([]uint32, dice.Intn(n+1))
		for j := range all[i] {
			all[i][j] = dice.Uint32() >> dice.Intn(33)
		}
	}
	return all
}

func value(a []uint32) *big.Int {
	v := new(big.Int)
	for i := len(a) - 1; i >= 0; i-- {
		v.Lsh(v, 32)
		v.Or(v, big.NewInt(int64(a[i])))
	}
	return v
}

// form is a number's one form, by another way than the package's.
func form(v *big.Int) []uint32 {
	var a []uint32
	low := big.NewInt(top)
	for v = new(big.Int).Set(v); v.Sign() > 0; v.Rsh(v, 32) {
		a = append(a, uint32(new(big.Int).And(v, low).Uint64()))
	}
	return a
}

func expect(t *testing.T, got []uint32, want *big.Int, what ...any) {
	t.Helper()
	if !slices.Equal(got, form(want)) {
		t.Errorf("got %v, want %v, of %v", got, form(want), what)
	}
}

// P2.1.
func TestMul(t *testing.T) {
	all := slices.Concat(rows(3, 0, 1, half, top), hard(), chance(60, 20))
	for _, a := range all {
		for _, b := range all {
			expect(t, Mul(a, b), new(big.Int).Mul(value(a), value(b)), "Mul", a, b)
		}
	}
}

func checkDivMod(t *testing.T, a, b []uint32) {
	t.Helper()
	q, r, ok := DivMod(a, b)
	if value(b).Sign() == 0 {
		if ok || len(q) != 0 || len(r) != 0 {
			t.Errorf("DivMod(%v, %v) = %v, %v, %v", a, b, q, r, ok)
		}
		return
	}
	quotient, left := new(big.Int).QuoRem(value(a), value(b), new(big.Int))
	expect(t, q, quotient, "the quotient of", a, b)
	expect(t, r, left, "what is left of", a, b)
	if !ok {
		t.Errorf("DivMod(%v, %v): %v", a, b, ok)
	}
}

// P2.1: false beside nothing, if b is 0.
func TestDivMod(t *testing.T) {
	q, r, ok := DivMod([]uint32{0, 0, 1}, []uint32{10})
	expect(t, q, big.NewInt(1844674407370955161), "the document's example")
	if !ok || !slices.Equal(r, []uint32{6}) {
		t.Error("the document's example:", r, ok)
	}
	for _, a := range rows(5, 0, 1, half, top) {
		for _, b := range rows(3, 0, 1, half-1, half, top) {
			checkDivMod(t, a, b)
		}
	}
	all := slices.Concat(hard(), chance(300, 14))
	for _, a := range all {
		for _, b := range all {
			checkDivMod(t, a, b)
		}
	}
}

// P2.1: quotients of one limb, of two and of many, about the products at which they turn.
func TestDivModAboutProducts(t *testing.T) {
	quotients := slices.Concat(rows(2, 1, 2, half-1, half, top-1, top), hard(), chance(20, 60))
	for _, q := range quotients {
		for _, b := range slices.Concat(rows(2, 1, 3, half, top), hard(), chance(20, 30)) {
			p := new(big.Int).Mul(value(q), value(b))
			checkDivMod(t, form(p), b)
			checkDivMod(t, form(new(big.Int).Add(p, big.NewInt(1))), b)
			if p.Sign() > 0 {
				checkDivMod(t, form(new(big.Int).Sub(p, big.NewInt(1))), b)
			}
		}
	}
}

// P2.1: false beside nothing, if b is 0, or something is left.
func TestExact(t *testing.T) {
	all := slices.Concat(rows(3, 0, 1, 6, half, top), hard(), chance(40, 9))
	for _, a := range all {
		for _, b := range all {
			got, ok := Exact(a, b)
			want, left := new(big.Int), big.NewInt(1)
			if value(b).Sign() > 0 {
				want.QuoRem(value(a), value(b), left)
			}
			if left.Sign() != 0 {
				want.SetInt64(0)
			}
			expect(t, got, want, "Exact", a, b)
			if ok != (left.Sign() == 0) {
				t.Errorf("Exact(%v, %v): %v", a, b, ok)
			}
		}
	}
}

// P2.2: n below 0 and above 64 among the powers.
func TestPow(t *testing.T) {
	powers := []int{math.MinInt, -65, -2, -1, 65, 66, 127, 128, 1 << 32, 1 << 62, math.MaxInt}
	for n := range 65 {
		powers = append(powers, n)
	}
	for _, a := range slices.Concat(rows(2, 0, 1, 2, 3, half, top), chance(10, 6)) {
		for _, n := range powers {
			counted := big.NewInt(int64(min(max(n, 0), 64)))
			expect(t, Pow(a, n), new(big.Int).Exp(value(a), counted, nil), "Pow", a, n)
		}
	}
	for _, nought := range [][]uint32{nil, {}, {0}, {0, 0, 0}} {
		for _, n := range []int{-7, 0} {
			if got := Pow(nought, n); !slices.Equal(got, []uint32{1}) {
				t.Errorf("Pow(%v, %d) = %v", nought, n, got)
			}
		}
		for _, n := range []int{1, 2, 64, 65} {
			if got := Pow(nought, n); len(got) != 0 {
				t.Errorf("Pow(%v, %d) = %v", nought, n, got)
			}
		}
	}
}

// P2.2.
func TestGcd(t *testing.T) {
	all := slices.Concat(rows(3, 0, 1, 6, half, top), hard(), chance(60, 8))
	for _, a := range all {
		for _, b := range all {
			expect(t, Gcd(a, b), new(big.Int).GCD(nil, nil, value(a), value(b)), "Gcd", a, b)
		}
	}
	for _, common := range append(hard(), []uint32{1}, []uint32{0, 30}) {
		a, b := Mul(common, Pow([]uint32{7}, 40)), Mul(common, Pow([]uint32{11}, 33))
		expect(t, Gcd(a, b), value(common), "Gcd", a, b)
		expect(t, Gcd(b, a), value(common), "Gcd", b, a)
	}
}

// P2.2: of 0 and b, of b and 0, of 0 and 0.
func TestGcdOfNought(t *testing.T) {
	for _, nought := range [][]uint32{nil, {}, {0}, {0, 0, 0}} {
		for _, b := range slices.Concat(hard(), [][]uint32{nil, {0}, {1}, {top, 0}, {4, 5, 0, 0}}) {
			expect(t, Gcd(nought, b), value(b), "Gcd", nought, b)
			expect(t, Gcd(b, nought), value(b), "Gcd", b, nought)
		}
	}
}

// P2.2: the longest way, through numbers of which each is the sum of the two ahead of it.
func TestGcdLongWay(t *testing.T) {
	a, b := []uint32{1}, []uint32{1}
	for range 3000 {
		a, b = b, limb.Add(a, b)
	}
	if got := Gcd(b, a); !slices.Equal(got, []uint32{1}) {
		t.Error(got)
	}
	if got := Gcd(Mul(a, []uint32{0, 9}), Mul(b, []uint32{0, 9})); !slices.Equal(got, []uint32{0, 9}) {
		t.Error(got)
	}
}

// P2.3.
func TestWhatFollows(t *testing.T) {
	all := slices.Concat(rows(2, 0, 1, half-1, half, top), hard(), chance(150, 25))
	for _, a := range all {
		for _, b := range all {
			if limb.Bits(b) == 0 {
				continue
			}
			q, r, ok := DivMod(a, b)
			if !ok || limb.Cmp(r, b) >= 0 || limb.Cmp(limb.Add(Mul(b, q), r), a) != 0 {
				t.Errorf("DivMod(%v, %v) = %v, %v, %v", a, b, q, r, ok)
			}
			if got, ok := Exact(Mul(a, b), b); !ok || !slices.Equal(got, limb.Trim(a)) {
				t.Errorf("Exact of Mul(%v, %v): %v, %v", a, b, got, ok)
			}
		}
	}
}

// call is one call by which a row may be changed, kept or told.
type call struct {
	name string
	do   func(a, b []uint32) [][]uint32
}

func calls() []call {
	return []call{
		{"Mul", func(a, b []uint32) [][]uint32 { return [][]uint32{Mul(a, b)} }},
		{"DivMod", func(a, b []uint32) [][]uint32 { q, r, _ := DivMod(a, b); return [][]uint32{q, r} }},
		{"Exact", func(a, b []uint32) [][]uint32 { q, _ := Exact(a, b); return [][]uint32{q} }},
		{"Pow by 0", func(a, b []uint32) [][]uint32 { return [][]uint32{Pow(a, 0)} }},
		{"Pow by 1", func(a, b []uint32) [][]uint32 { return [][]uint32{Pow(a, 1)} }},
		{"Pow by 3", func(a, b []uint32) [][]uint32 { return [][]uint32{Pow(a, 3)} }},
		{"Gcd", func(a, b []uint32) [][]uint32 { return [][]uint32{Gcd(a, b)} }},
	}
}

// guarded is a with marks behind its length, and all of that memory.
func guarded(a []uint32) (row, memory []uint32) {
	memory = append(slices.Clone(a), mark, mark, mark)
	return memory[:len(a)], memory
}

func copies(lists [][]uint32) [][]uint32 {
	own := make([][]uint32, len(lists))
	for i, a := range lists {
		own[i] = slices.Clone(a)
	}
	return own
}

func alike(x, y [][]uint32) bool {
	return slices.EqualFunc(x, y, slices.Equal[[]uint32])
}

// scribble writes over each list and what lies behind it; false, if one list's marks show in another.
func scribble(lists [][]uint32) bool {
	for i, a := range lists {
		rest := slices.Delete(slices.Clone(lists), i, i+1)
		was := copies(rest)
		a = a[:cap(a)]
		for j := range a {
			a[j] = mark + 1 + uint32(i)
		}
		if !alike(rest, was) {
			return false
		}
	}
	return true
}

// P2.1, P2.2 with R2.
func TestHandedInStays(t *testing.T) {
	some := [][]uint32{nil, {0}, {0, 0}, {1}, {7, 0}, {7, 8, 0}, {top, top}, {1, 2, 3}, {0, 0, 0, 5}, {9, 9, 9, 9, top, 0, 0}}
	for _, c := range calls() {
		for _, p := range some {
			for _, q := range some {
				a, aMemory := guarded(p)
				b, bMemory := guarded(q)
				aWas, bWas := slices.Clone(aMemory), slices.Clone(bMemory)
				first := c.do(a, b)
				kept := copies(first)
				if !alike(first, c.do(slices.Clip(slices.Clone(p)), slices.Clip(slices.Clone(q)))) {
					t.Errorf("%s of %v, %v hangs on what lies behind", c.name, p, q)
				}
				if !scribble(c.do(a, b)) {
					t.Errorf("%s of %v, %v: two lists of one answer share memory", c.name, p, q)
				}
				if !slices.Equal(aMemory, aWas) || !slices.Equal(bMemory, bWas) {
					t.Errorf("%s of %v, %v: what was handed in is changed or shared", c.name, p, q)
				}
				if !alike(first, kept) {
					t.Errorf("%s of %v, %v: two answers share memory", c.name, p, q)
				}
			}
		}
	}
}

// P2.1, P2.2 with R2: rows that share memory.
func TestOneRowTwice(t *testing.T) {
	for _, was := range slices.Concat(rows(3, 1, half, top)[1:], hard()) {
		a := slices.Clone(was)
		expect(t, Mul(a, a[1:]), new(big.Int).Mul(value(was), value(was[1:])), "Mul", was)
		checkDivMod(t, a, a)
		checkDivMod(t, a, a[1:])
		checkDivMod(t, a, a[:len(a)-1])
		expect(t, Gcd(a, a), value(was), "Gcd", was)
		if !slices.Equal(a, was) {
			t.Errorf("%v became %v", was, a)
		}
	}
}
