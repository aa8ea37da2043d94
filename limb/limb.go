// Package limb: limbs: see ../../shared/doc/01-limb.md.
package limb

const (
	limbBits = 32
	farthest = 4096
)

// cut shares a's memory, so that rows which are only read need no copy.
// It hands back nil for 0, so that 0 has one form whichever call tells it.
func cut(a []uint32) []uint32 {
	for n := len(a); n > 0; n-- {
		if a[n-1] != 0 {
			return a[:n]
		}
	}
	return nil
}

// Trim tells a in its one form.
func Trim(a []uint32) []uint32 {
	a = cut(a)
	if len(a) == 0 {
		return nil
	}
	own := make([]uint32, len(a))
	copy(own, a)
	return own
}

// Cmp tells -1, 0 or 1: a is less than b, alike, greater.
func Cmp(a, b []uint32) int {
	a, b = cut(a), cut(b)
	if len(a) != len(b) {
		return sideOf(len(a) < len(b))
	}
	for i := len(a) - 1; i >= 0; i-- {
		if a[i] != b[i] {
			return sideOf(a[i] < b[i])
		}
	}
	return 0
}

func sideOf(less bool) int {
	if less {
		return -1
	}
	return 1
}

// Bits tells how many bits a has from its highest 1 on.
func Bits(a []uint32) int {
	a = cut(a)
	if len(a) == 0 {
		return 0
	}
	n := (len(a) - 1) * limbBits
	for top := a[len(a)-1]; top != 0; top >>= 1 {
		n++
	}
	return n
}

// Add tells a and b together.
func Add(a, b []uint32) []uint32 {
	a, b = cut(a), cut(b)
	if len(a) < len(b) {
		a, b = b, a
	}
	sum := make([]uint32, len(a)+1)
	var carry uint64
	for i, x := range a {
		carry += uint64(x)
		if i < len(b) {
			carry += uint64(b[i])
		}
		sum[i] = uint32(carry)
		carry >>= limbBits
	}
	sum[len(a)] = uint32(carry)
	return cut(sum)
}

// Sub tells a less b; false, if b is greater.
func Sub(a, b []uint32) ([]uint32, bool) {
	if Cmp(a, b) < 0 {
		return nil, false
	}
	a, b = cut(a), cut(b)
	rest := make([]uint32, len(a))
	var borrow uint64
	for i, x := range a {
		d := uint64(x) - borrow
		if i < len(b) {
			d -= uint64(b[i])
		}
		rest[i] = uint32(d)
		// Below 0 the difference goes round, and only then is its highest bit 1.
		borrow = d >> 63
	}
	return cut(rest), true
}

// Times tells a times x.
func Times(a []uint32, x uint32) []uint32 {
	a = cut(a)
	product := make([]uint32, len(a)+1)
	var carry uint64
	for i, y := range a {
		// At most (2^32 - 1)^2 + 2^32 - 1, which is below 2^64.
		carry += uint64(y) * uint64(x)
		product[i] = uint32(carry)
		carry >>= limbBits
	}
	product[len(a)] = uint32(carry)
	return cut(product)
}

// Over tells a by x, rounded down, and what is left; false, if x is 0.
func Over(a []uint32, x uint32) ([]uint32, uint32, bool) {
	if x == 0 {
		return nil, 0, false
	}
	a = cut(a)
	quotient := make([]uint32, len(a))
	var left uint64
	for i := len(a) - 1; i >= 0; i-- {
		left = left<<limbBits | uint64(a[i])
		// left was below x ahead of this limb, so the quotient fits one limb.
		quotient[i] = uint32(left / uint64(x))
		left %= uint64(x)
	}
	return cut(quotient), uint32(left), true
}

// steps parts a shift into limbs and the bits beside them.
func steps(n int) (limbs int, rest uint) {
	n = min(max(n, 0), farthest)
	return n / limbBits, uint(n % limbBits)
}

// Left tells a times 2 to the n (n below 0 as 0, above 4096 as that).
func Left(a []uint32, n int) []uint32 {
	a = cut(a)
	if len(a) == 0 {
		return nil
	}
	limbs, rest := steps(n)
	up := make([]uint32, len(a)+limbs+1)
	for i, x := range a {
		wide := uint64(x) << rest
		up[limbs+i] |= uint32(wide)
		up[limbs+i+1] = uint32(wide >> limbBits)
	}
	return cut(up)
}

// Right tells a by 2 to the n, rounded down (n below 0 as 0, above 4096 as that).
func Right(a []uint32, n int) []uint32 {
	a = cut(a)
	limbs, rest := steps(n)
	if limbs >= len(a) {
		return nil
	}
	a = a[limbs:]
	down := make([]uint32, len(a))
	for i, x := range a {
		wide := uint64(x)
		if i+1 < len(a) {
			wide |= uint64(a[i+1]) << limbBits
		}
		down[i] = uint32(wide >> rest)
	}
	return cut(down)
}
