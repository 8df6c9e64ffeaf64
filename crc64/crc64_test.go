package crc64_test

import (
	"bytes"
	stdcrc64 "hash/crc64"
	"math"
	"testing"

	"tegula/crc64"
)

const polynomial = 0xc96c5795d7870f42

// numbers is a generator of test data.
type numbers uint64

func (n *numbers) next() uint64 {
	*n = *n*6364136223846793005 + 1442695040888963407
	return uint64(*n) ^ uint64(*n)>>29
}

func (n *numbers) bytes(length int) []byte {
	b := make([]byte, length)
	for i := range b {
		b[i] = byte(n.next() >> 32)
	}
	return b
}

// reference computes a register bit by bit, as the chapter defines it, without inversions.
func reference(x uint64, b []byte) uint64 {
	for _, v := range b {
		for k := range 8 {
			odd := x&1 != uint64(v>>k&1)
			x >>= 1
			if odd {
				x ^= polynomial
			}
		}
	}
	return x
}

// P8.1: the examples, and known sums of this checksum.
func TestSumExamples(t *testing.T) {
	table := stdcrc64.MakeTable(stdcrc64.ECMA)
	for _, x := range []struct {
		text string
		sum  uint64
	}{
		{"", 0},
		{"123456789", 0x995dc9bbdf1939fa},
		{"a", stdcrc64.Checksum([]byte("a"), table)},
		{"\x00", stdcrc64.Checksum([]byte{0}, table)},
	} {
		if got := crc64.Sum([]byte(x.text)); got != x.sum {
			t.Errorf("Sum(%q) = %x, not %x", x.text, got, x.sum)
		}
	}
	if crc64.Sum(nil) != 0 || crc64.Sum([]byte{}) != 0 {
		t.Error("the sum of no bytes is not 0")
	}
}

// P8.1: Sum and Update of byte strings of many lengths, in two other ways; the argument is not modified.
func TestSum(t *testing.T) {
	table := stdcrc64.MakeTable(stdcrc64.ECMA)
	data := numbers(1)
	for length := range 300 {
		b := data.bytes(length)
		kept := bytes.Clone(b)
		sum := crc64.Sum(b)
		if sum != ^reference(math.MaxUint64, b) || sum != stdcrc64.Checksum(b, table) {
			t.Fatalf("Sum of %d bytes: %x", length, sum)
		}
		for _, start := range []uint64{0, 1, math.MaxUint64, 1 << 63, data.next()} {
			if got := crc64.Update(start, b); got != ^reference(^start, b) || got != stdcrc64.Update(start, table, b) {
				t.Fatalf("Update(%x) with %d bytes: %x", start, length, got)
			}
		}
		if !bytes.Equal(b, kept) {
			t.Fatal("the argument was modified")
		}
	}
	if got := crc64.Update(77, nil); got != 77 {
		t.Errorf("Update(77, nil) = %d", got)
	}
}

// P8.1: every byte has the specified sum.
func TestSumBytes(t *testing.T) {
	for v := range 256 {
		b := []byte{byte(v)}
		if got := crc64.Sum(b); got != ^reference(math.MaxUint64, b) {
			t.Errorf("Sum(%d) = %x", v, got)
		}
	}
}

// P8.1: Combine performs 8 n steps, none if n is not positive.
func TestCombine(t *testing.T) {
	data := numbers(2)
	for n := range 200 {
		for _, a := range []uint64{0, 1, math.MaxUint64, data.next()} {
			b := data.next()
			if got, want := crc64.Combine(a, b, n), reference(a, make([]byte, n))^b; got != want {
				t.Fatalf("Combine(%x, %x, %d) = %x, not %x", a, b, n, got, want)
			}
		}
	}
	for _, n := range []int{0, -1, -8, -1 << 32, math.MinInt, math.MinInt + 1} {
		for _, a := range []uint64{0, 5, math.MaxUint64} {
			if got := crc64.Combine(a, 0, n); got != a {
				t.Errorf("Combine(%x, 0, %d) = %x", a, n, got)
			}
			if got := crc64.Combine(a, 9, n); got != a^9 {
				t.Errorf("Combine(%x, 9, %d) = %x", a, n, got)
			}
		}
	}
}

// P8.1: every single bit moves as its steps say.
func TestCombineBits(t *testing.T) {
	for k := range 64 {
		a := uint64(1) << k
		for n := range 20 {
			if got, want := crc64.Combine(a, 0, n), reference(a, make([]byte, n)); got != want {
				t.Fatalf("Combine(%x, 0, %d) = %x, not %x", a, n, got, want)
			}
		}
	}
}

// P8.1: the largest numbers of bytes are reached in few operations, also where 8 n is no int.
func TestCombineFar(t *testing.T) {
	data := numbers(3)
	for _, n := range []int{1 << 31, 1<<40 + 12345, 1 << 60, 1<<61 - 1, 1 << 61, 1 << 62, math.MaxInt - 1, math.MaxInt} {
		a := data.next()
		half := n / 2
		if got, want := crc64.Combine(a, 0, n), crc64.Combine(crc64.Combine(a, 0, half), 0, n-half); got != want {
			t.Errorf("Combine(%x, 0, %d) = %x, not %x", a, n, got, want)
		}
		if got, want := crc64.Combine(a, 0, n), reference(crc64.Combine(a, 0, n-3), make([]byte, 3)); got != want {
			t.Errorf("Combine(%x, 0, %d) = %x, not %x", a, n, got, want)
		}
		if got := crc64.Combine(0, 7, n); got != 7 {
			t.Errorf("Combine(0, 7, %d) = %x", n, got)
		}
	}
}

// P8.2: a sum is continued, and two sums are combined.
func TestContinuation(t *testing.T) {
	data := numbers(4)
	for _, length := range []int{0, 1, 2, 7, 8, 9, 64, 255, 256, 1000} {
		b := data.bytes(length)
		sum := crc64.Sum(b)
		for i := range length + 1 {
			first, second := crc64.Sum(b[:i]), crc64.Sum(b[i:])
			if got := crc64.Update(first, b[i:]); got != sum {
				t.Fatalf("Update at %d of %d: %x, not %x", i, length, got, sum)
			}
			if got := crc64.Combine(first, second, length-i); got != sum {
				t.Fatalf("Combine at %d of %d: %x, not %x", i, length, got, sum)
			}
		}
	}
}

// P8.2: long byte strings.
func TestContinuationLong(t *testing.T) {
	data := numbers(5)
	b := data.bytes(1 << 20)
	sum := crc64.Sum(b)
	for _, i := range []int{1, 4095, 1 << 19, 1<<20 - 1} {
		if crc64.Update(crc64.Sum(b[:i]), b[i:]) != sum || crc64.Combine(crc64.Sum(b[:i]), crc64.Sum(b[i:]), len(b)-i) != sum {
			t.Errorf("parts at %d have another sum", i)
		}
	}
}

// P8.3: the exclusive or of three sums of byte strings of equal length is a sum.
func TestLinearity(t *testing.T) {
	data := numbers(6)
	for length := range 130 {
		a, b, c := data.bytes(length), data.bytes(length), data.bytes(length)
		all := make([]byte, length)
		for i := range all {
			all[i] = a[i] ^ b[i] ^ c[i]
		}
		if got, want := crc64.Sum(all), crc64.Sum(a)^crc64.Sum(b)^crc64.Sum(c); got != want {
			t.Fatalf("%d bytes: %x, not %x", length, got, want)
		}
	}
}

// flip changes the bits of a pattern in a byte string, from a bit on; bits beyond the end are left out.
func flip(b []byte, from int, pattern uint64) {
	for k := range 64 {
		if pattern>>k&1 == 1 && from+k < 8*len(b) {
			b[(from+k)/8] ^= 1 << ((from + k) % 8)
		}
	}
}

// P8.4: changes within 64 consecutive bits change the sum.
func TestDetection(t *testing.T) {
	data := numbers(7)
	for _, length := range []int{1, 7, 8, 9, 40, 64} {
		b := data.bytes(length)
		sum := crc64.Sum(b)
		for from := range 8 * length {
			for _, pattern := range []uint64{1, 3, 1<<63 | 1, math.MaxUint64, polynomial, data.next() | 1} {
				changed := bytes.Clone(b)
				flip(changed, from, pattern)
				if !bytes.Equal(changed, b) && crc64.Sum(changed) == sum {
					t.Fatalf("%d bytes: the change %x at bit %d is not detected", length, pattern, from)
				}
			}
		}
	}
}

// P8.4: the sums of byte strings of at most eight bytes differ. As sums are linear, it is enough that the changes of the sum of single bits are independent.
func TestDetectionShort(t *testing.T) {
	for length := 1; length <= 8; length++ {
		zeros := make([]byte, length)
		sum := crc64.Sum(zeros)
		var basis [64]uint64
		for k := range 8 * length {
			b := bytes.Clone(zeros)
			flip(b, k, 1)
			if !insert(&basis, crc64.Sum(b)^sum) {
				t.Fatalf("%d bytes: bit %d does not change the sum in a way of its own", length, k)
			}
		}
	}
}

// insert adds a number to a basis, indexed by the highest bits of its numbers; it returns false if the number depends on those.
func insert(basis *[64]uint64, x uint64) bool {
	for k := 63; k >= 0; k-- {
		if x>>k&1 == 0 {
			continue
		}
		if basis[k] == 0 {
			basis[k] = x
			return true
		}
		x ^= basis[k]
	}
	return false
}
