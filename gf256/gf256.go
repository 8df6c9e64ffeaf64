// Package gf256 implements layer 1: the field with 256 elements. See shared/doc/01-gf256.md.
package gf256

import "tegula/api"

const (
	// reduction is what x^8 equals modulo x^8 + x^4 + x^3 + x^2 + 1.
	reduction = 0x1D
	// generator is an element whose powers are all elements other than 0.
	generator = 2
	// period is the number of elements other than 0. The power of each of them with this exponent is 1, so exponents only matter modulo it.
	period = 255
)

// Add returns the sum of two elements.
func Add(a, b byte) byte { return a ^ b }

// Mul returns the product of two elements.
func Mul(a, b byte) byte {
	var sum byte
	for b != 0 {
		if b&1 != 0 {
			sum ^= a
		}
		a = timesX(a)
		b >>= 1
	}
	return sum
}

// Inv returns the element whose product with a is 1, or ErrDivide if a is 0.
func Inv(a byte) (byte, api.Errno) {
	return Pow(a, -1)
}

// Div returns a times the inverse of b, or ErrDivide if b is 0.
func Div(a, b byte) (byte, api.Errno) {
	inverse, e := Inv(b)
	if e != api.OK {
		return 0, e
	}
	return Mul(a, inverse), api.OK
}

// Pow returns a^n, or ErrDivide if a is 0 and n is negative.
func Pow(a byte, n int) (byte, api.Errno) {
	if a != 0 {
		return power(a, reduced(n)), api.OK
	}
	// 0 has no period: its exponent must not be reduced, or 0^255 would become 0^0.
	switch {
	case n < 0:
		return 0, api.ErrDivide
	case n == 0:
		return 1, api.OK
	}
	return 0, api.OK
}

// Exp returns 2^n, for any n.
func Exp(n int) byte { return power(generator, reduced(n)) }

// Log returns the number n from 0 to 254 with 2^n = a, or ErrNone if a is 0.
func Log(a byte) (int, api.Errno) {
	p := byte(1)
	for n := range period {
		if p == a {
			return n, api.OK
		}
		p = timesX(p)
	}
	// The powers of the generator are all elements other than 0, so a is 0.
	return 0, api.ErrNone
}

// Fused returns the list whose element i is dst[i] plus c times src[i], or ErrArg if the lists have different lengths.
func Fused(dst, src []byte, c byte) ([]byte, api.Errno) {
	if len(dst) != len(src) {
		return nil, api.ErrArg
	}
	list := make([]byte, len(dst))
	for i := range list {
		list[i] = Add(dst[i], Mul(c, src[i]))
	}
	return list, api.OK
}

// timesX returns the product of a and x, which is the generator.
func timesX(a byte) byte {
	if a&0x80 != 0 {
		return a<<1 ^ reduction
	}
	return a << 1
}

// reduced returns the exponent from 0 to 254 that means the same as n for every element other than 0. It divides instead of negating n, as the least int has no negative.
func reduced(n int) int {
	n %= period
	if n < 0 {
		n += period
	}
	return n
}

// power returns a^n for n of at least 0, by repeated squaring.
func power(a byte, n int) byte {
	product := byte(1)
	for n > 0 {
		if n&1 != 0 {
			product = Mul(product, a)
		}
		a = Mul(a, a)
		n >>= 1
	}
	return product
}
