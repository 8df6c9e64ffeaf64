// Package fieldtest computes in the field of 256 elements in another way than package gf256, so that the tests of the layers above it do not rely on it. Only tests use it.
package fieldtest

// modulus is x^8 + x^4 + x^3 + x^2 + 1.
const modulus = 0x11D

// Times returns the product of two elements: the whole product of the polynomials first, then the remainder of its division by the modulus.
func Times(a, b byte) byte {
	product := 0
	for k := range 8 {
		if b>>k&1 == 1 {
			product ^= int(a) << k
		}
	}
	for k := 14; k >= 8; k-- {
		if product>>k&1 == 1 {
			product ^= modulus << (k - 8)
		}
	}
	return byte(product)
}

// Power returns the product of n factors a, for n of at least 0.
func Power(a byte, n int) byte {
	product := byte(1)
	for range n {
		product = Times(product, a)
	}
	return product
}
