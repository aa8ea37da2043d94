package limb

import (
	"math"
	"math/big"
	"slices"
	"testing"
)

const (
	top  = math.MaxUint32
	mark = 0xdeadbeef
)

// edges are limbs at which carries, borrows and highest bits turn.
var edges = []uint32{0, 1, 1<<31 - 1, 1 << 31, top}

// rows are all rows of up to three edges: noughts inside, and behind the last limb, among them.
func rows() [][]uint32 {
	all := [][]uint32{nil}
	last := all
	for range 3 {
		var next [][]uint32
		for _, r := range last {
			for _, x := range edges {
				next = append(next, append(slices.Clone(r), x))
			}
		}
		all = append(all, next...)
		last = next
	}
	return all
}

// long is n limbs x, the lowest one 5.
func long(n int, x uint32) []uint32 {
	a := make([]uint32, n)
	for i := range a {
		a[i] = x
	}
	a[0] = 5
	return a
}

func value(a []uint32) *big.Int {
	v := new(big.Int)
	for i := len(a) - 1; i >= 0; i-- {
		v.Lsh(v, 32)
		v.Or(v, big.NewInt(int64(a[i])))
	}
	return v
}

// form is a number's one form, by another way than the package's.
func form(v *big.Int) []uint32 {
	var a []uint32
	low := big.NewInt(top)
	for v = new(big.Int).Set(v); v.Sign() > 0; v.Rsh(v, 32) {
		a = append(a, uint32(new(big.Int).And(v, low).Uint64()))
	}
	return a
}

func expect(t *testing.T, got []uint32, want *big.Int, what ...any) {
	t.Helper()
	if !slices.Equal(got, form(want)) {
		t.Errorf("got %v, want %v, of %v", got, form(want), what)
	}
}

// P1.1.
func TestTrimAndBits(t *testing.T) {
	for _, a := range append(rows(), long(200, top), make([]uint32, 200)) {
		expect(t, Trim(a), value(a), "Trim", a)
		if got := Bits(a); got != value(a).BitLen() {
			t.Errorf("Bits(%v) = %d", a, got)
		}
	}
	for n := range 100 {
		a := []uint32{0, 0, 0, 0, 0}
		a[n/32] = 1 << (n % 32)
		if got := Bits(a); got != n+1 {
			t.Errorf("Bits(2^%d) = %d", n, got)
		}
	}
}

// P1.1.
func TestCmp(t *testing.T) {
	for _, a := range rows() {
		for _, b := range rows() {
			if got := Cmp(a, b); got != value(a).Cmp(value(b)) {
				t.Errorf("Cmp(%v, %v) = %d", a, b, got)
			}
		}
	}
	cases := []struct {
		a, b []uint32
		want int
	}{
		{nil, []uint32{}, 0},
		{nil, []uint32{0, 0, 0}, 0},
		{[]uint32{7, 0, 0}, []uint32{7}, 0},
		{[]uint32{7, 0, 0}, []uint32{8}, -1},
		{[]uint32{top}, []uint32{0, 1}, -1},
		{[]uint32{0, 2}, []uint32{top, 1}, 1},
	}
	for _, c := range cases {
		if got := Cmp(c.a, c.b); got != c.want {
			t.Errorf("Cmp(%v, %v) = %d", c.a, c.b, got)
		}
	}
}

// P1.1.
func TestAdd(t *testing.T) {
	if got := Add([]uint32{top}, []uint32{1}); !slices.Equal(got, []uint32{0, 1}) {
		t.Error("the document's example:", got)
	}
	for _, a := range rows() {
		for _, b := range rows() {
			expect(t, Add(a, b), new(big.Int).Add(value(a), value(b)), "Add", a, b)
		}
	}
	full := long(300, top)
	full[0] = top
	expect(t, Add([]uint32{1, 0}, full), new(big.Int).Lsh(big.NewInt(1), 9600), "a carry through all limbs")
}

// P1.1: false beside nothing, if b is greater.
func TestSub(t *testing.T) {
	for _, a := range rows() {
		for _, b := range rows() {
			got, ok := Sub(a, b)
			want := new(big.Int).Sub(value(a), value(b))
			if ok != (want.Sign() >= 0) {
				t.Errorf("Sub(%v, %v): %v", a, b, ok)
			}
			if ok {
				expect(t, got, want, "Sub", a, b)
			} else if len(got) != 0 {
				t.Errorf("Sub(%v, %v) = %v beside false", a, b, got)
			}
		}
	}
	high := make([]uint32, 301)
	high[300] = 1
	got, ok := Sub(high, []uint32{1})
	if !ok || len(got) != 300 || slices.Min(got) != top {
		t.Error("a borrow through all limbs:", ok, got)
	}
}

// P1.2.
func TestTimes(t *testing.T) {
	for _, a := range append(rows(), long(200, top)) {
		for _, x := range append(edges, 3, 10) {
			expect(t, Times(a, x), new(big.Int).Mul(value(a), big.NewInt(int64(x))), "Times", a, x)
		}
	}
}

// P1.2: false beside nothing, if x is 0.
func TestOver(t *testing.T) {
	q, r, ok := Over([]uint32{0, 1}, 10)
	if !slices.Equal(q, []uint32{429496729}) || r != 6 || !ok {
		t.Error("the document's example:", q, r, ok)
	}
	for _, a := range append(rows(), long(200, top)) {
		for _, x := range []uint32{1, 2, 3, 10, 1<<31 - 1, 1 << 31, top - 1, top} {
			q, r, ok := Over(a, x)
			want, left := new(big.Int).DivMod(value(a), big.NewInt(int64(x)), new(big.Int))
			expect(t, q, want, "Over", a, x)
			if uint64(r) != left.Uint64() || !ok {
				t.Errorf("Over(%v, %d): %d, %v", a, x, r, ok)
			}
		}
		if q, r, ok := Over(a, 0); len(q) != 0 || r != 0 || ok {
			t.Errorf("Over(%v, 0) = %v, %d, %v", a, q, r, ok)
		}
	}
}

// shifts are counts about the limbs' ends, and those that count as others.
func shifts() []int {
	return []int{math.MinInt, -4097, -33, -1, 0, 1, 2, 30, 31, 32, 33, 63, 64, 65, 95, 96, 97,
		4063, 4064, 4095, 4096, 4097, 4128, 1 << 32, math.MaxInt}
}

func counted(n int) uint {
	return uint(min(max(n, 0), 4096))
}

// P1.2: n below 0 and above 4096 among the counts.
func TestLeft(t *testing.T) {
	for _, a := range append(rows(), long(200, top)) {
		for _, n := range shifts() {
			expect(t, Left(a, n), new(big.Int).Lsh(value(a), counted(n)), "Left", a, n)
		}
	}
}

// P1.2: n below 0 and above 4096 among the counts.
func TestRight(t *testing.T) {
	// The long rows have more than 4096 bits, so a greater count shows.
	for _, a := range append(rows(), long(128, top), long(129, 1), long(200, top), long(200, 1<<31)) {
		for _, n := range shifts() {
			expect(t, Right(a, n), new(big.Int).Rsh(value(a), counted(n)), "Right", a, n)
		}
	}
}

// P1.3.
func TestUndone(t *testing.T) {
	all := append(rows(), long(150, top))
	for _, a := range all {
		for _, b := range all {
			if got, ok := Sub(Add(a, b), b); !ok || !slices.Equal(got, Trim(a)) {
				t.Errorf("Sub of Add(%v, %v): %v, %v", a, b, got, ok)
			}
		}
		for _, x := range []uint32{1, 2, 10, 1<<31 - 1, 1 << 31, top} {
			if got, left, ok := Over(Times(a, x), x); !ok || left != 0 || !slices.Equal(got, Trim(a)) {
				t.Errorf("Over of Times(%v, %d): %v, %d, %v", a, x, got, left, ok)
			}
		}
		for _, n := range shifts() {
			if got := Right(Left(a, n), n); !slices.Equal(got, Trim(a)) {
				t.Errorf("Right of Left(%v, %d): %v", a, n, got)
			}
		}
	}
}

// call is one call by which a row may be changed, kept or told.
type call struct {
	name string
	do   func(a, b []uint32) []uint32
}

func calls() []call {
	return []call{
		{"Trim", func(a, b []uint32) []uint32 { return Trim(a) }},
		{"Cmp", func(a, b []uint32) []uint32 { return form(big.NewInt(int64(Cmp(a, b) + 1))) }},
		{"Bits", func(a, b []uint32) []uint32 { return form(big.NewInt(int64(Bits(a)))) }},
		{"Add", Add},
		{"Sub", func(a, b []uint32) []uint32 { d, _ := Sub(a, b); return d }},
		{"Times by 0", func(a, b []uint32) []uint32 { return Times(a, 0) }},
		{"Times by 1", func(a, b []uint32) []uint32 { return Times(a, 1) }},
		{"Over by 0", func(a, b []uint32) []uint32 { q, _, _ := Over(a, 0); return q }},
		{"Over by 1", func(a, b []uint32) []uint32 { q, _, _ := Over(a, 1); return q }},
		{"Left by 0", func(a, b []uint32) []uint32 { return Left(a, 0) }},
		{"Left by 32", func(a, b []uint32) []uint32 { return Left(a, 32) }},
		{"Right by -1", func(a, b []uint32) []uint32 { return Right(a, -1) }},
		{"Right by 32", func(a, b []uint32) []uint32 { return Right(a, 32) }},
	}
}

// guarded is a with marks behind its length, and all of that memory.
func guarded(a []uint32) (row, memory []uint32) {
	memory = append(slices.Clone(a), mark, mark, mark)
	return memory[:len(a)], memory
}

// P1.1, P1.2 with R2.
func TestHandedInStays(t *testing.T) {
	some := [][]uint32{nil, {0}, {0, 0}, {7}, {7, 8, 0}, {top, top}, {0, 1}, {1, 2, 3}}
	for _, c := range calls() {
		for _, p := range some {
			for _, q := range some {
				a, aMemory := guarded(p)
				b, bMemory := guarded(q)
				aWas, bWas := slices.Clone(aMemory), slices.Clone(bMemory)
				first := c.do(a, b)
				kept := slices.Clone(first)
				if !slices.Equal(first, c.do(slices.Clip(slices.Clone(p)), slices.Clip(slices.Clone(q)))) {
					t.Errorf("%s of %v, %v hangs on what lies behind", c.name, p, q)
				}
				second := c.do(a, b)
				second = second[:cap(second)]
				for i := range second {
					second[i] = mark + 1
				}
				if !slices.Equal(aMemory, aWas) || !slices.Equal(bMemory, bWas) {
					t.Errorf("%s of %v, %v: what was handed in is changed or shared", c.name, p, q)
				}
				if !slices.Equal(first, kept) {
					t.Errorf("%s of %v, %v: two answers share memory", c.name, p, q)
				}
			}
		}
	}
}

// P1.1 with R2: rows that share memory.
func TestOneRowTwice(t *testing.T) {
	a := []uint32{top, 3, 0}
	if got := Add(a, a); !slices.Equal(got, []uint32{top - 1, 7}) {
		t.Error(got)
	}
	if got, ok := Sub(a, a); !ok || len(got) != 0 {
		t.Error(got, ok)
	}
	if got := Add(a, a[1:]); !slices.Equal(got, []uint32{2, 4}) || !slices.Equal(a, []uint32{top, 3, 0}) {
		t.Error(got, a)
	}
}
