package quot

import (
	"math"
	"math/big"
	"math/rand"
	"slices"
	"strconv"
	"strings"
	"testing"

	"quincunx/api"
	"quincunx/whole"
)

const (
	top  = math.MaxUint32
	mark = 0xdeadbeef
)

// edges are limbs at which carries, borrows and highest bits turn.
var edges = []uint32{0, 1, 1 << 31, top}

// rows are all rows of up to three edges: noughts inside, and behind the last limb, among them.
func rows() [][]uint32 {
	all := [][]uint32{nil}
	last := all
	for range 3 {
		var next [][]uint32
		for _, r := range last {
			for _, x := range edges {
				next = append(next, append(slices.Clone(r), x))
			}
		}
		all = append(all, next...)
		last = next
	}
	return all
}

// handed are Ints as they may be handed in: each row with either sign, longer ones, noughts of many limbs.
func handed() []api.Int {
	mags := append(rows(), []uint32{}, []uint32{7}, []uint32{10, 0}, []uint32{0, 0, 0, 1, 0, 0},
		slices.Repeat([]uint32{top}, 9), make([]uint32, 100))
	chance := rand.New(rand.NewSource(5))
	for n := range 12 {
		mag := make([]uint32, n)
		for i := range mag {
			mag[i] = chance.Uint32()
		}
		mags = append(mags, mag)
	}
	var all []api.Int
	for _, mag := range mags {
		all = append(all, api.Int{Mag: mag}, api.Int{Neg: true, Mag: mag})
	}
	return all
}

// few are Ints of every kind, but not so many that each call on all pairs of them takes long.
func few() []api.Int {
	var all []api.Int
	for _, mag := range [][]uint32{nil, {0, 0}, {1}, {2, 0}, {3}, {top}, {0, 1}, {top, top}, {5, 0, 1 << 31}, {1, 2, 3, 4, 0}} {
		all = append(all, api.Int{Mag: mag}, api.Int{Neg: true, Mag: mag})
	}
	return all
}

// noughts are 0 in all its forms.
func noughts() []api.Int {
	var all []api.Int
	for _, mag := range [][]uint32{nil, {}, {0}, {0, 0}, make([]uint32, 100)} {
		all = append(all, api.Int{Mag: mag}, api.Int{Neg: true, Mag: mag})
	}
	return all
}

func value(a api.Int) *big.Int {
	v := new(big.Int)
	for _, x := range slices.Backward(a.Mag) {
		v.Lsh(v, 32)
		v.Or(v, big.NewInt(int64(x)))
	}
	if a.Neg {
		v.Neg(v)
	}
	return v
}

// form is a number's one form, by another way than the package's.
func form(v *big.Int) api.Int {
	a := api.Int{Neg: v.Sign() < 0}
	low := big.NewInt(top)
	for v = new(big.Int).Abs(v); v.Sign() > 0; v.Rsh(v, 32) {
		a.Mag = append(a.Mag, uint32(new(big.Int).And(v, low).Uint64()))
	}
	return a
}

// padded is a with noughts behind its limbs, and 0 with a sign too.
func padded(a api.Int) api.Int {
	return api.Int{Neg: a.Neg || len(a.Mag) == 0, Mag: append(slices.Clone(a.Mag), 0, 0)}
}

// alike holds two Ints against each other limb by limb: not only by their values.
func alike(a, b api.Int) bool {
	return a.Neg == b.Neg && slices.Equal(a.Mag, b.Mag)
}

func expect(t *testing.T, got api.Int, want *big.Int, what ...any) {
	t.Helper()
	if !alike(got, form(want)) {
		t.Errorf("got %v, want %v, of %v", got, form(want), what)
	}
}

func isNothing(a api.Int) bool {
	return !a.Neg && len(a.Mag) == 0
}

// nearest is the whole number nearest to v by w, of two the greater one: half a step up, then rounded down.
func nearest(v, w *big.Int) *big.Int {
	above := new(big.Int).Add(new(big.Int).Lsh(v, 1), w)
	below := new(big.Int).Lsh(w, 1)
	if below.Sign() < 0 {
		above.Neg(above)
		below.Neg(below)
	}
	return above.Div(above, below)
}

// check holds every quotient of a and b against another way's.
func check(t *testing.T, a, b api.Int) {
	t.Helper()
	v, w := value(a), value(b)
	q, r, quoOK := Quo(a, b)
	p, s, divOK := Div(a, b)
	m, nearOK := Near(a, b)
	if w.Sign() == 0 {
		if quoOK || divOK || nearOK {
			t.Errorf("%v by %v: %v, %v, %v", a, b, quoOK, divOK, nearOK)
		}
		for i, got := range []api.Int{q, r, p, s, m} {
			if !isNothing(got) {
				t.Errorf("%v by %v: beside false answer %d is %v", a, b, i, got)
			}
		}
		if Divides(b, a) != (v.Sign() == 0) {
			t.Errorf("Divides(%v, %v): %v", b, a, Divides(b, a))
		}
		return
	}
	if !quoOK || !divOK || !nearOK {
		t.Errorf("%v by %v: %v, %v, %v", a, b, quoOK, divOK, nearOK)
	}
	wantQ, wantR := new(big.Int).QuoRem(v, w, new(big.Int))
	expect(t, q, wantQ, "Quo", a, b)
	expect(t, r, wantR, "Quo's rest", a, b)
	wantP, wantS := new(big.Int).DivMod(v, w, new(big.Int))
	expect(t, p, wantP, "Div", a, b)
	expect(t, s, wantS, "Div's rest", a, b)
	expect(t, m, nearest(v, w), "Near", a, b)
	if got := Divides(b, a); got != (wantR.Sign() == 0) {
		t.Errorf("Divides(%v, %v): %v", b, a, got)
	}
}

// P5.1: b as 0 in all its forms, and 0 as the one divided, among them.
func TestQuotients(t *testing.T) {
	all := handed()
	for _, a := range all {
		for _, b := range all {
			check(t, a, b)
		}
	}
}

// P5.1: all four pairs of signs, whatever form the numbers are handed in.
func TestSmallNumbers(t *testing.T) {
	for a := -60; a <= 60; a++ {
		for b := -13; b <= 13; b++ {
			x, y := whole.Of(a), whole.Of(b)
			check(t, x, y)
			check(t, padded(x), padded(y))
		}
	}
}

// P5.1: the four pairs of signs one by one, as the document's words have them.
func TestSigns(t *testing.T) {
	for _, c := range []struct{ a, b, q, r, p, s, near int }{
		{7, 3, 2, 1, 2, 1, 2},
		{7, -3, -2, 1, -2, 1, -2},
		{-7, 3, -2, -1, -3, 2, -2},
		{-7, -3, 2, -1, 3, 2, 2},
		{8, 3, 2, 2, 2, 2, 3},
		{8, -3, -2, 2, -2, 2, -3},
		{-8, 3, -2, -2, -3, 1, -3},
		{-8, -3, 2, -2, 3, 1, 3},
		{6, 3, 2, 0, 2, 0, 2},
		{6, -3, -2, 0, -2, 0, -2},
		{-6, 3, -2, 0, -2, 0, -2},
		{-6, -3, 2, 0, 2, 0, 2},
		{1, 3, 0, 1, 0, 1, 0},
		{1, -3, 0, 1, 0, 1, 0},
		{-1, 3, 0, -1, -1, 2, 0},
		{-1, -3, 0, -1, 1, 2, 0},
		{0, 3, 0, 0, 0, 0, 0},
		{0, -3, 0, 0, 0, 0, 0},
		{7, 2, 3, 1, 3, 1, 4},
		{7, -2, -3, 1, -3, 1, -3},
		{-7, 2, -3, -1, -4, 1, -3},
		{-7, -2, 3, -1, 4, 1, 4},
		{1, 2, 0, 1, 0, 1, 1},
		{1, -2, 0, 1, 0, 1, 0},
		{-1, 2, 0, -1, -1, 1, 0},
		{-1, -2, 0, -1, 1, 1, 1},
	} {
		a, b := whole.Of(c.a), whole.Of(c.b)
		q, r, quoOK := Quo(a, b)
		p, s, divOK := Div(a, b)
		m, nearOK := Near(a, b)
		if !quoOK || !divOK || !nearOK {
			t.Errorf("%d by %d: %v, %v, %v", c.a, c.b, quoOK, divOK, nearOK)
		}
		for i, want := range []int{c.q, c.r, c.p, c.s, c.near} {
			if got := []api.Int{q, r, p, s, m}[i]; !alike(got, whole.Of(want)) {
				t.Errorf("%d by %d: answer %d is %v, want %d", c.a, c.b, i, got, want)
			}
		}
	}
}

// P5.1: nothing beside false, whatever is divided by 0 in whatever form.
func TestByNought(t *testing.T) {
	for _, b := range noughts() {
		for _, a := range append(few(), noughts()...) {
			if q, r, ok := Quo(a, b); ok || !isNothing(q) || !isNothing(r) {
				t.Errorf("Quo(%v, %v) = %v, %v, %v", a, b, q, r, ok)
			}
			if q, r, ok := Div(a, b); ok || !isNothing(q) || !isNothing(r) {
				t.Errorf("Div(%v, %v) = %v, %v, %v", a, b, q, r, ok)
			}
			if q, ok := Near(a, b); ok || !isNothing(q) {
				t.Errorf("Near(%v, %v) = %v, %v", a, b, q, ok)
			}
		}
	}
}

// P5.1: 0 by all else is 0, and nothing is left; it is told in its one form.
func TestNoughtDivided(t *testing.T) {
	for _, a := range noughts() {
		for _, b := range few() {
			if whole.Sign(b) == 0 {
				continue
			}
			q, r, quoOK := Quo(a, b)
			p, s, divOK := Div(a, b)
			m, nearOK := Near(a, b)
			if !quoOK || !divOK || !nearOK {
				t.Errorf("%v by %v: %v, %v, %v", a, b, quoOK, divOK, nearOK)
			}
			for i, got := range []api.Int{q, r, p, s, m} {
				if !isNothing(got) {
					t.Errorf("%v by %v: answer %d is %v", a, b, i, got)
				}
			}
		}
	}
}

// P5.1: 0 is divided by all, itself too, and divides itself alone.
func TestDividesNought(t *testing.T) {
	for _, z := range noughts() {
		for _, a := range append(few(), noughts()...) {
			if !Divides(a, z) {
				t.Errorf("Divides(%v, %v): false", a, z)
			}
			if Divides(z, a) != (value(a).Sign() == 0) {
				t.Errorf("Divides(%v, %v): %v", z, a, Divides(z, a))
			}
		}
	}
}

// P5.1: a multiple is divided whatever the signs are, its neighbour by ones alone.
func TestDivides(t *testing.T) {
	for _, a := range few() {
		for _, n := range few() {
			b := whole.Mul(a, n)
			if !Divides(a, b) || !Divides(padded(a), padded(b)) || !Divides(whole.Neg(a), b) {
				t.Errorf("%v does not divide %v times itself", a, n)
			}
			one := new(big.Int).Abs(value(a)).Cmp(big.NewInt(1)) == 0
			if got := Divides(a, whole.Add(b, whole.Of(1))); got != one {
				t.Errorf("%v, one more than %v times itself: %v", a, n, got)
			}
		}
	}
}

// P5.1: a by b whole, just half between two whole numbers, and just beside both, on either side of 0, by long numbers too.
func TestHalves(t *testing.T) {
	for _, b := range few() {
		if whole.Sign(b) == 0 {
			continue
		}
		twice := whole.Add(b, b)
		for n := -5; n <= 5; n++ {
			for _, far := range few() {
				between := whole.Add(whole.Add(far, far), whole.Of(n))
				a := whole.Mul(b, between)
				for d := -2; d <= 2; d++ {
					check(t, whole.Add(a, whole.Of(d)), padded(twice))
					check(t, padded(whole.Add(a, whole.Of(d))), b)
				}
			}
		}
	}
}

// P5.1: of two as near the greater one, above 0 and below.
func TestNearOfHalves(t *testing.T) {
	for n := -20; n <= 20; n++ {
		for _, b := range few() {
			if whole.Sign(b) == 0 {
				continue
			}
			a := whole.Mul(b, whole.Of(2*n+1))
			got, ok := Near(a, whole.Add(b, b))
			if !ok || !alike(got, whole.Of(n+1)) {
				t.Errorf("Near of %d and a half, by twice %v: %v, %v", n, b, got, ok)
			}
		}
	}
}

// P5.1, P5.2: numbers of hundreds of limbs.
func TestLong(t *testing.T) {
	full := api.Int{Mag: slices.Repeat([]uint32{top}, 300)}
	half := api.Int{Mag: append(make([]uint32, 150), 1<<31)}
	for _, a := range []api.Int{full, half, whole.Neg(full), whole.Neg(half)} {
		for _, b := range []api.Int{full, half, whole.Neg(full), whole.Neg(half), whole.Of(-3), whole.Of(10)} {
			check(t, a, b)
			check(t, whole.Mul(a, b), b)
			check(t, b, a)
		}
		if got, want := Text(a), value(a).String(); got != want {
			t.Errorf("Text: %s, want %s", got, want)
		}
	}
}

// ints are those about 0, about each power of ten and of two, and the ends.
func ints() []int {
	all := []int{math.MinInt, math.MinInt + 1, math.MaxInt, math.MaxInt - 1}
	for n := range 63 {
		for d := -2; d <= 2; d++ {
			all = append(all, 1<<n+d, -(1<<n + d))
		}
	}
	for n := 1; n < math.MaxInt/10; n *= 10 {
		all = append(all, n, -n, n-1, 1-n, n+1, -1-n)
	}
	return all
}

// P5.2: as ints have their texts.
func TestTextOfInts(t *testing.T) {
	for _, n := range ints() {
		want := strconv.Itoa(n)
		for _, a := range []api.Int{whole.Of(n), padded(whole.Of(n))} {
			if got := Text(a); got != want {
				t.Errorf("Text(%v) = %q, want %q", a, got, want)
			}
		}
		got, ok := Parse(want)
		if !ok || !alike(got, whole.Of(n)) {
			t.Errorf("Parse(%q) = %v, %v", want, got, ok)
		}
	}
}

// P5.2.
func TestText(t *testing.T) {
	for _, a := range handed() {
		if got, want := Text(a), value(a).String(); got != want {
			t.Errorf("Text(%v) = %q, want %q", a, got, want)
		}
	}
	for _, a := range noughts() {
		if got := Text(a); got != "0" {
			t.Errorf("Text(%v) = %q", a, got)
		}
	}
}

// P5.2: with noughts ahead, behind "-" too, and -0, which is told as 0 is.
func TestParse(t *testing.T) {
	for s, want := range map[string]int{
		"0": 0, "-0": 0, "000": 0, "-000": 0, "-00000000000000000000": 0,
		"7": 7, "-7": -7, "007": 7, "-007": -7, "10": 10, "-10": -10,
		"4294967295": top, "-4294967296": -1 << 32, "-9223372036854775808": math.MinInt,
		"00000000000000000000000009223372036854775807":  math.MaxInt,
		"-00000000000000000000000009223372036854775807": -math.MaxInt,
	} {
		got, ok := Parse(s)
		if !ok || !alike(got, whole.Of(want)) {
			t.Errorf("Parse(%q) = %v, %v, want %d", s, got, ok, want)
		}
	}
}

// P5.2: nothing beside false.
func TestParseRefuses(t *testing.T) {
	all := []string{
		"", "-", "--", "---", "--1", "--0", "-+1", "+-1", "+", "+1", "+0", "- 1", " -1", "-1 ", " ", " 1", "1 ", "1 2",
		"1-", "1-2", "-1-", "0-", "a", "-a", "1a", "-1a", "a1", "0x10", "-0x10", "1e3", "1.0", "-.5", "1_000", "1,000",
		"\x00", "1\x00", "-1\n", "\n1", "\t1", "\xff", "-\xff", "١", "-١", "１", "−1", "–1", "/", ":", "-/", "-:",
	}
	for sign := range 256 {
		c := string([]byte{byte(sign)})
		if sign < '0' || sign > '9' {
			all = append(all, "-"+c, "1"+c, "-1"+c, "-"+c+"1", "123456789"+c+"123456789")
			if c != "-" {
				all = append(all, c, c+"1", c+"-1")
			}
		}
	}
	for _, s := range all {
		if got, ok := Parse(s); ok || !isNothing(got) {
			t.Errorf("Parse(%q) = %v, %v", s, got, ok)
		}
	}
}

// P5.2: the "-" is none of the signs that digit.Parse counts.
func TestParseLength(t *testing.T) {
	for _, sign := range []string{"0", "1", "9"} {
		for _, n := range []int{1, 9, 10, 4095, 4096} {
			digits := strings.Repeat(sign, n)
			for _, s := range []string{digits, "-" + digits} {
				want, _ := new(big.Int).SetString(s, 10)
				got, ok := Parse(s)
				if !ok || !alike(got, form(want)) {
					t.Errorf("%d times %q, %d signs in all: %v", n, sign, len(s), ok)
				}
			}
		}
		for _, n := range []int{4097, 4098, 5000} {
			digits := strings.Repeat(sign, n)
			for _, s := range []string{digits, "-" + digits} {
				if got, ok := Parse(s); ok || !isNothing(got) {
					t.Errorf("%d times %q, %d signs in all: %v", n, sign, len(s), ok)
				}
			}
		}
	}
	for _, s := range []string{"-" + strings.Repeat("0", 4095) + "1", strings.Repeat("0", 4095) + "1"} {
		got, ok := Parse(s)
		if want := 1 - 2*strings.Count(s, "-"); !ok || !alike(got, whole.Of(want)) {
			t.Errorf("%d, behind many noughts: %v, %v", want, got, ok)
		}
	}
}

// P5.3: a is b times the quotient and what is left, which is where P5.1 has it.
func TestQuotientsUndone(t *testing.T) {
	all := handed()
	for _, a := range all {
		for _, b := range all {
			if whole.Sign(b) == 0 {
				continue
			}
			q, r, _ := Quo(a, b)
			if !alike(whole.Add(whole.Mul(b, q), r), whole.Form(a)) {
				t.Errorf("Quo(%v, %v) = %v, %v", a, b, q, r)
			}
			if s := whole.Sign(r); s != 0 && s != whole.Sign(a) || whole.Cmp(whole.Abs(r), whole.Abs(b)) >= 0 {
				t.Errorf("Quo(%v, %v) leaves %v", a, b, r)
			}
			q, r, _ = Div(a, b)
			if !alike(whole.Add(whole.Mul(b, q), r), whole.Form(a)) {
				t.Errorf("Div(%v, %v) = %v, %v", a, b, q, r)
			}
			if whole.Sign(r) < 0 || whole.Cmp(r, whole.Abs(b)) >= 0 {
				t.Errorf("Div(%v, %v) leaves %v", a, b, r)
			}
		}
	}
}

// P5.3: Parse undoes Text, while the digits are as many as Parse takes.
func TestParseUndoesText(t *testing.T) {
	long := api.Int{Mag: slices.Repeat([]uint32{top}, 425)}
	for _, a := range append(handed(), append(noughts(), long, whole.Neg(long))...) {
		got, ok := Parse(Text(a))
		if !ok || !alike(got, whole.Form(a)) {
			t.Errorf("%v: %v, %v", a, got, ok)
		}
	}
}

// The document's examples.
func TestExamples(t *testing.T) {
	a, b := whole.Of(-7), whole.Of(2)
	if q, r, ok := Quo(a, b); !ok || !alike(q, whole.Of(-3)) || !alike(r, whole.Of(-1)) {
		t.Error("Quo:", q, r, ok)
	}
	if q, r, ok := Div(a, b); !ok || !alike(q, whole.Of(-4)) || !alike(r, whole.Of(1)) {
		t.Error("Div:", q, r, ok)
	}
	if q, ok := Near(a, b); !ok || !alike(q, whole.Of(-3)) {
		t.Error("Near:", q, ok)
	}
}

// call is one call by which numbers may be changed, kept or told.
type call struct {
	name string
	do   func(a, b api.Int) []api.Int
}

func calls() []call {
	return []call{
		{"Quo", func(a, b api.Int) []api.Int { q, r, _ := Quo(a, b); return []api.Int{q, r} }},
		{"Div", func(a, b api.Int) []api.Int { q, r, _ := Div(a, b); return []api.Int{q, r} }},
		{"Near", func(a, b api.Int) []api.Int { q, _ := Near(a, b); return []api.Int{q} }},
		{"Divides", func(a, b api.Int) []api.Int { return []api.Int{{Neg: Divides(a, b)}} }},
		{"Text", func(a, b api.Int) []api.Int { v, _ := new(big.Int).SetString(Text(a), 10); return []api.Int{form(v)} }},
	}
}

// guarded is a with marks behind its limbs, and all of that memory.
func guarded(a api.Int) (b api.Int, memory []uint32) {
	memory = append(slices.Clone(a.Mag), mark, mark, mark)
	return api.Int{Neg: a.Neg, Mag: memory[:len(a.Mag)]}, memory
}

func bare(a api.Int) api.Int {
	return api.Int{Neg: a.Neg, Mag: slices.Clip(slices.Clone(a.Mag))}
}

func scribble(a api.Int) {
	all := a.Mag[:cap(a.Mag)]
	for i := range all {
		all[i] = mark + 1
	}
}

// P5.1, P5.2 with R2.
func TestHandedInStays(t *testing.T) {
	for _, c := range calls() {
		for _, p := range few() {
			for _, q := range few() {
				checkStays(t, c, p, q)
			}
		}
	}
}

func checkStays(t *testing.T, c call, p, q api.Int) {
	t.Helper()
	a, aMemory := guarded(p)
	b, bMemory := guarded(q)
	aWas, bWas := slices.Clone(aMemory), slices.Clone(bMemory)
	want := c.do(bare(p), bare(q))
	got := c.do(a, b)
	if !slices.EqualFunc(got, want, alike) {
		t.Errorf("%s of %v, %v hangs on what lies behind", c.name, p, q)
	}
	for _, told := range c.do(a, b) {
		scribble(told)
	}
	if !slices.Equal(aMemory, aWas) || !slices.Equal(bMemory, bWas) || a.Neg != p.Neg || b.Neg != q.Neg {
		t.Errorf("%s of %v, %v: what was handed in is changed or shared", c.name, p, q)
	}
	if !slices.EqualFunc(got, want, alike) {
		t.Errorf("%s of %v, %v: two calls' answers share memory", c.name, p, q)
	}
	for i := range got {
		scribble(got[i])
		for j := i + 1; j < len(got); j++ {
			if !alike(got[j], want[j]) {
				t.Errorf("%s of %v, %v: answers %d and %d share memory", c.name, p, q, i, j)
			}
		}
	}
}

// P5.2 with R2: each answer of Parse is the caller's own.
func TestParseIsNew(t *testing.T) {
	for _, s := range []string{"0", "-0", "1", "-1", "12345678901234567890", "-0012345678901234567890"} {
		first, _ := Parse(s)
		kept := bare(first)
		second, _ := Parse(s)
		scribble(second)
		if again, _ := Parse(s); !alike(first, kept) || !alike(again, kept) {
			t.Errorf("Parse(%q): two answers share memory", s)
		}
	}
}

// P5.1 with R2: one number handed in twice, and numbers that share limbs.
func TestOneNumberTwice(t *testing.T) {
	mag := []uint32{top, 3, 0}
	a := api.Int{Neg: true, Mag: mag}
	b := api.Int{Mag: mag[1:]}
	for _, x := range []api.Int{a, b} {
		for _, y := range []api.Int{a, b} {
			check(t, x, y)
		}
	}
	if !slices.Equal(mag, []uint32{top, 3, 0}) || !a.Neg || b.Neg {
		t.Error("what was handed in is changed:", a, b)
	}
}
