// Package fieldtest computes in the field of 256 elements, and in groups, in another way than packages gf256 and parity, so that the tests of the layers above them do not rely on these. Only tests use it.
package fieldtest

import (
	"slices"

	"tegula/api"
)

// modulus is x^8 + x^4 + x^3 + x^2 + 1.
const modulus = 0x11D

// Times returns the product of two elements: the whole product of the polynomials first, then the remainder of its division by the modulus.
func Times(a, b byte) byte {
	product := 0
	for k := range 8 {
		if b>>k&1 == 1 {
			product ^= int(a) << k
		}
	}
	for k := 14; k >= 8; k-- {
		if product>>k&1 == 1 {
			product ^= modulus << (k - 8)
		}
	}
	return byte(product)
}

// Power returns the product of n factors a, for n of at least 0.
func Power(a byte, n int) byte {
	product := byte(1)
	for range n {
		product = Times(product, a)
	}
	return product
}

// Coefficient returns 2^(j i), the coefficient of data piece i in parity piece j.
func Coefficient(j, i int) byte { return Power(2, j*i) }

// Sum returns the sums of the blocks of two lists of the same length.
func Sum(a, b []api.Block) []api.Block {
	sum := slices.Clone(a)
	for i := range sum {
		for k := range sum[i] {
			sum[i][k] ^= b[i][k]
		}
	}
	return sum
}

// Multiple returns c times each block of a list.
func Multiple(a []api.Block, c byte) []api.Block {
	multiple := slices.Clone(a)
	for i := range multiple {
		for k := range multiple[i] {
			multiple[i][k] = Times(multiple[i][k], c)
		}
	}
	return multiple
}

// Combination returns the sum of the multiples of blocks by as many weights.
func Combination(weights []byte, blocks []api.Block) api.Block {
	sum := make([]api.Block, 1)
	for i, c := range weights {
		sum = Sum(sum, Multiple(blocks[i:i+1], c))
	}
	return sum[0]
}

// Parity returns the parity of data pieces, by its definition.
func Parity(data []api.Block) []api.Block {
	blocks := make([]api.Block, api.Parity)
	for j := range blocks {
		var weights []byte
		for i := range data {
			weights = append(weights, Coefficient(j, i))
		}
		blocks[j] = Combination(weights, data)
	}
	return blocks
}

// Blocks returns n blocks of the bytes that next yields.
func Blocks(n int, next func() byte) []api.Block {
	blocks := make([]api.Block, n)
	for i := range blocks {
		for k := range blocks[i] {
			blocks[i][k] = next()
		}
	}
	return blocks
}

// Group returns a consistent group of a width, with data pieces of the bytes that next yields.
func Group(width int, next func() byte) []api.Block {
	data := Blocks(width-api.Parity, next)
	return append(data, Parity(data)...)
}

// Triples calls visit for all increasing triples of numbers less than n.
func Triples(n int, visit func(a, b, c int)) {
	for c := range n {
		for b := range c {
			for a := range b {
				visit(a, b, c)
			}
		}
	}
}
