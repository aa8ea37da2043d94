package digit

import (
	"math"
	"math/big"
	"math/rand"
	"slices"
	"strings"
	"testing"
)

const (
	top  = math.MaxUint32
	mark = 0xdeadbeef
)

// form is a number's row in its one form, by another way than the package's.
func form(v *big.Int) []uint32 {
	var a []uint32
	low := big.NewInt(top)
	for v = new(big.Int).Set(v); v.Sign() > 0; v.Rsh(v, 32) {
		a = append(a, uint32(new(big.Int).And(v, low).Uint64()))
	}
	return a
}

func power(base int64, n int) *big.Int {
	return new(big.Int).Exp(big.NewInt(base), big.NewInt(int64(n)), nil)
}

// about is v and its neighbours from 0 on.
func about(v *big.Int) []*big.Int {
	var all []*big.Int
	for d := int64(-2); d <= 2; d++ {
		if w := new(big.Int).Add(v, big.NewInt(d)); w.Sign() >= 0 {
			all = append(all, w)
		}
	}
	return all
}

// numbers are those about powers of 10 and of 2^32, at which digits and limbs turn,
// those with noughts inside, and chance ones; all have at most 4096 digits.
func numbers() []*big.Int {
	var all []*big.Int
	for n := range 60 {
		all = append(all, about(power(10, n))...)
		all = append(all, about(power(1<<32, n))...)
		all = append(all, about(new(big.Int).Mul(power(10, n), big.NewInt(1000000001)))...)
	}
	for _, n := range []int{1000, 4094} {
		all = append(all, about(power(10, n))...)
	}
	all = append(all, power(10, 4095), new(big.Int).Sub(power(10, 4096), big.NewInt(1)))
	all = append(all, about(power(1<<32, 425))...)
	chance := rand.New(rand.NewSource(3))
	for n := range 300 {
		all = append(all, new(big.Int).Rand(chance, power(2, 7*n+1)))
	}
	return all
}

// P3.1: also with noughts behind the last limb.
func TestTextAndLen(t *testing.T) {
	for _, v := range numbers() {
		want := v.String()
		a := form(v)
		for range 3 {
			if got := Text(a); got != want {
				t.Errorf("Text(%v) = %s, want %s", a, got, want)
			}
			if got := Len(a); got != len(want) {
				t.Errorf("Len(%v) = %d, want %d", a, got, len(want))
			}
			a = append(a, 0)
		}
	}
}

// P3.1.
func TestTextOfNought(t *testing.T) {
	for _, a := range [][]uint32{nil, {}, {0}, {0, 0}, make([]uint32, 200)} {
		if got := Text(a); got != "0" {
			t.Errorf("Text(%v) = %q", a, got)
		}
		if got := Len(a); got != 1 {
			t.Errorf("Len(%v) = %d", a, got)
		}
	}
}

// P3.1: more digits than Parse takes are told.
func TestTextOfMany(t *testing.T) {
	for _, n := range []int{4096, 4097, 9000} {
		for _, v := range about(power(10, n)) {
			want := v.String()
			if got := Text(form(v)); got != want || Len(form(v)) != len(want) {
				t.Errorf("near ten to the %d: %d digits", n, len(got))
			}
		}
	}
}

// The document's examples.
func TestExamples(t *testing.T) {
	if got := Text([]uint32{0, 1}); got != "4294967296" {
		t.Error(got)
	}
	if got, ok := Parse("007"); !ok || !slices.Equal(got, []uint32{7}) {
		t.Error(got, ok)
	}
	for _, s := range []string{"", "+1"} {
		refused(t, s)
	}
}

func taken(t *testing.T, s string, want []uint32) {
	t.Helper()
	if got, ok := Parse(s); !ok || !slices.Equal(got, want) {
		t.Errorf("Parse of %d signs %.50q: %v, %v, want %v", len(s), s, got, ok, want)
	}
}

// refused holds that nothing is told beside false.
func refused(t *testing.T, s string) {
	t.Helper()
	if got, ok := Parse(s); ok || len(got) != 0 {
		t.Errorf("Parse of %d signs %.50q: %v, %v", len(s), s, got, ok)
	}
}

// P3.2: noughts ahead among them, as many as there is room for.
func TestParse(t *testing.T) {
	for _, v := range numbers() {
		s := v.String()
		for _, n := range []int{0, 1, 2, 8, 9, 10, 4096 - len(s)} {
			if n >= 0 && n+len(s) <= 4096 {
				taken(t, strings.Repeat("0", n)+s, form(v))
			}
		}
	}
}

// P3.2.
func TestParseOneSign(t *testing.T) {
	for c := range 256 {
		s := string([]byte{byte(c)})
		if c < '0' || c > '9' {
			refused(t, s)
			continue
		}
		taken(t, s, form(big.NewInt(int64(c-'0'))))
	}
}

// P3.2: about the least and the most signs.
func TestParseLengths(t *testing.T) {
	for _, sign := range []string{"0", "1", "9"} {
		for _, n := range []int{1, 2, 8, 9, 10, 4095, 4096} {
			s := strings.Repeat(sign, n)
			v, _ := new(big.Int).SetString(s, 10)
			taken(t, s, form(v))
		}
		for _, n := range []int{0, 4097, 4098, 8192, 100000} {
			refused(t, strings.Repeat(sign, n))
		}
	}
	// One sign more than there may be, even where it is a nought that adds nothing.
	refused(t, strings.Repeat("0", 4096)+"7")
	refused(t, "0"+strings.Repeat("7", 4096))
}

// P3.2: every byte that is no digit, at every place of short texts, and at the ends of groups in long ones.
func TestParseWrongSigns(t *testing.T) {
	for c := range 256 {
		if c >= '0' && c <= '9' {
			continue
		}
		for _, n := range []int{1, 2, 3, 9, 10, 20} {
			for i := range n {
				wrong := []byte(strings.Repeat("1", n))
				wrong[i] = byte(c)
				refused(t, string(wrong))
			}
		}
		for _, i := range []int{0, 8, 9, 2047, 2048, 4094, 4095} {
			wrong := []byte(strings.Repeat("1", 4096))
			wrong[i] = byte(c)
			refused(t, string(wrong))
		}
	}
	for _, s := range []string{" ", " 1", "1 ", "1\n", "-0", "+0", "1_000", "1,5", "1.5", "1e3", "0x1f", "٣", "1٣", "１２", "\x00", "\xff1"} {
		refused(t, s)
	}
}

// P3.3.
func TestParseUndoesText(t *testing.T) {
	for _, v := range numbers() {
		a := form(v)
		got, ok := Parse(Text(append(slices.Clone(a), 0, 0)))
		if !ok || !slices.Equal(got, a) {
			t.Errorf("Parse of Text(%v): %v, %v", a, got, ok)
		}
	}
	for n := 1; n <= 40; n++ {
		a := slices.Repeat([]uint32{top}, n)
		if got, ok := Parse(Text(a)); !ok || !slices.Equal(got, a) {
			t.Errorf("%d limbs full of ones: %v, %v", n, got, ok)
		}
	}
}

// P3.1 with R2: marks behind the length are neither read nor written, nor is the row itself changed.
func TestHandedInStays(t *testing.T) {
	for _, a := range [][]uint32{nil, {0}, {7}, {7, 0, 0}, {0, 1}, {top, top}, {1, 2, 3, 4, 5}} {
		memory := append(slices.Clone(a), mark, mark, mark)
		was := slices.Clone(memory)
		row := memory[:len(a)]
		if Text(row) != Text(slices.Clip(slices.Clone(a))) {
			t.Errorf("Text(%v) hangs on what lies behind", a)
		}
		if Len(row) != len(Text(row)) {
			t.Errorf("Len(%v) hangs on what lies behind", a)
		}
		if !slices.Equal(memory, was) {
			t.Errorf("of %v: what was handed in is changed", a)
		}
	}
}

// P3.2 with R2: each answer is the caller's own.
func TestAnswersAreNew(t *testing.T) {
	for _, s := range []string{"0", "7", "007", "4294967296", strings.Repeat("9", 100)} {
		first, _ := Parse(s)
		kept := slices.Clone(first)
		second, _ := Parse(s)
		second = second[:cap(second)]
		for i := range second {
			second[i] = mark
		}
		if third, _ := Parse(s); !slices.Equal(first, kept) || !slices.Equal(third, kept) {
			t.Errorf("Parse(%q): two answers share memory", s)
		}
	}
}
