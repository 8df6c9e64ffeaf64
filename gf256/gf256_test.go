package gf256

import (
	"bytes"
	"math"
	"slices"
	"testing"

	"tegula/api"
	"tegula/fieldtest"
)

// inverseOf searches the inverse of an element other than 0.
func inverseOf(a byte) byte {
	for b := range 256 {
		if fieldtest.Times(a, byte(b)) == 1 {
			return byte(b)
		}
	}
	return 0
}

// P1.1: the values of sums and products.
func TestSumsAndProducts(t *testing.T) {
	for a := range 256 {
		for b := range 256 {
			x, y := byte(a), byte(b)
			if s := Add(x, y); int(s) != a^b {
				t.Fatalf("Add(%d, %d) = %d", a, b, s)
			}
			if p := Mul(x, y); p != fieldtest.Times(x, y) {
				t.Fatalf("Mul(%d, %d) = %d, not %d", a, b, p, fieldtest.Times(x, y))
			}
		}
	}
	for _, c := range []struct{ a, b, want byte }{{2, 128, 29}, {3, 7, 9}, {2, 142, 1}, {0, 0, 0}, {0, 255, 0}, {255, 0, 0}, {1, 255, 255}} {
		if p := Mul(c.a, c.b); p != c.want {
			t.Errorf("Mul(%d, %d) = %d, not %d", c.a, c.b, p, c.want)
		}
	}
}

// P1.1: the axioms of a field with one or two elements.
func TestCommutativityAndUnits(t *testing.T) {
	for a := range 256 {
		x := byte(a)
		if Add(x, 0) != x || Add(x, x) != 0 || Mul(x, 1) != x || Mul(x, 0) != 0 {
			t.Fatalf("%d: a unit or an opposite is wrong", a)
		}
		inverses := 0
		for b := range 256 {
			y := byte(b)
			if Add(x, y) != Add(y, x) || Mul(x, y) != Mul(y, x) {
				t.Fatalf("%d, %d do not commute", a, b)
			}
			if a != 0 && b != 0 && Mul(x, y) == 0 {
				t.Fatalf("%d, %d: a product of others than 0 is 0", a, b)
			}
			if Mul(x, y) == 1 {
				inverses++
			}
		}
		if want := min(a, 1); inverses != want {
			t.Fatalf("%d has %d inverses", a, inverses)
		}
	}
}

// P1.1: the axioms of a field with three elements.
func TestAssociativityAndDistributivity(t *testing.T) {
	for a := range 256 {
		for b := range 256 {
			x, y := byte(a), byte(b)
			product := Mul(x, y)
			for c := 0; c < 256; c += 3 {
				z := byte(c)
				if Add(Add(x, y), z) != Add(x, Add(y, z)) {
					t.Fatalf("%d, %d, %d: sums are not associative", a, b, c)
				}
				if Mul(product, z) != Mul(x, Mul(y, z)) {
					t.Fatalf("%d, %d, %d: products are not associative", a, b, c)
				}
				if Mul(x, Add(y, z)) != Add(product, Mul(x, z)) {
					t.Fatalf("%d, %d, %d: products do not distribute", a, b, c)
				}
			}
		}
	}
}

// P1.2: Inv, and its error with a zero result.
func TestInverses(t *testing.T) {
	for a := 1; a < 256; a++ {
		i, e := Inv(byte(a))
		if e != api.OK || i != inverseOf(byte(a)) {
			t.Errorf("Inv(%d) = %d, %d", a, i, e)
		}
	}
	if i, e := Inv(2); i != 142 || e != api.OK {
		t.Errorf("Inv(2) = %d, %d", i, e)
	}
	if i, e := Inv(0); i != 0 || e != api.ErrDivide {
		t.Errorf("Inv(0) = %d, %d", i, e)
	}
}

// P1.2: Div, and its error with a zero result.
func TestQuotients(t *testing.T) {
	for b := 1; b < 256; b++ {
		inverse := inverseOf(byte(b))
		for a := range 256 {
			q, e := Div(byte(a), byte(b))
			if e != api.OK || q != fieldtest.Times(byte(a), inverse) {
				t.Fatalf("Div(%d, %d) = %d, %d", a, b, q, e)
			}
		}
	}
	for a := range 256 {
		if q, e := Div(byte(a), 0); q != 0 || e != api.ErrDivide {
			t.Errorf("Div(%d, 0) = %d, %d", a, q, e)
		}
	}
}

// P1.2: Pow of the elements other than 0, with exponents of both signs and beyond the period.
func TestPowers(t *testing.T) {
	for a := 1; a < 256; a++ {
		x := byte(a)
		up, down, inverse := byte(1), byte(1), inverseOf(x)
		for n := range 600 {
			if p, e := Pow(x, n); p != up || e != api.OK {
				t.Fatalf("Pow(%d, %d) = %d, %d, not %d", a, n, p, e, up)
			}
			if p, e := Pow(x, -n); p != down || e != api.OK {
				t.Fatalf("Pow(%d, %d) = %d, %d, not %d", a, -n, p, e, down)
			}
			up, down = fieldtest.Times(up, x), fieldtest.Times(down, inverse)
		}
	}
}

// P1.2: Pow of 0, which is 1 for the exponent 0 alone.
func TestPowersOfZero(t *testing.T) {
	if p, e := Pow(0, 0); p != 1 || e != api.OK {
		t.Errorf("Pow(0, 0) = %d, %d", p, e)
	}
	for _, n := range []int{1, 2, 254, 255, 256, 510, math.MaxInt} {
		if p, e := Pow(0, n); p != 0 || e != api.OK {
			t.Errorf("Pow(0, %d) = %d, %d", n, p, e)
		}
	}
	for _, n := range []int{-1, -2, -254, -255, -256, -510, math.MinInt} {
		if p, e := Pow(0, n); p != 0 || e != api.ErrDivide {
			t.Errorf("Pow(0, %d) = %d, %d", n, p, e)
		}
	}
}

// P1.2, P1.3: the extreme exponents. 2^8 is 1 modulo 255, so the largest int is 127 modulo 255, and so is the least one.
func TestExtremeExponents(t *testing.T) {
	for _, c := range []struct{ n, small int }{
		{math.MaxInt, 127}, {math.MaxInt - 1, 126}, {math.MinInt, 127}, {math.MinInt + 1, 128},
	} {
		for a := 1; a < 256; a++ {
			if p, e := Pow(byte(a), c.n); p != fieldtest.Power(byte(a), c.small) || e != api.OK {
				t.Fatalf("Pow(%d, %d) = %d, %d", a, c.n, p, e)
			}
		}
		if p := Exp(c.n); p != fieldtest.Power(2, c.small) {
			t.Errorf("Exp(%d) = %d", c.n, p)
		}
	}
}

// P1.3: Exp, for exponents of both signs and beyond the period.
func TestExponentials(t *testing.T) {
	up, down := byte(1), byte(1)
	for n := range 600 {
		if p := Exp(n); p != up {
			t.Fatalf("Exp(%d) = %d, not %d", n, p, up)
		}
		if p := Exp(-n); p != down {
			t.Fatalf("Exp(%d) = %d, not %d", -n, p, down)
		}
		up, down = fieldtest.Times(up, 2), fieldtest.Times(down, 142)
	}
	for _, c := range []struct {
		n    int
		want byte
	}{{0, 1}, {1, 2}, {8, 29}, {9, 58}, {-1, 142}, {254, 142}, {255, 1}, {-255, 1}} {
		if p := Exp(c.n); p != c.want {
			t.Errorf("Exp(%d) = %d, not %d", c.n, p, c.want)
		}
	}
}

// P1.3: Log, and its error with a zero result.
func TestLogarithms(t *testing.T) {
	p := byte(1)
	for n := range 255 {
		if k, e := Log(p); k != n || e != api.OK {
			t.Errorf("Log(%d) = %d, %d, not %d", p, k, e, n)
		}
		p = fieldtest.Times(p, 2)
	}
	if k, e := Log(142); k != 254 || e != api.OK {
		t.Errorf("Log(142) = %d, %d", k, e)
	}
	if k, e := Log(0); k != 0 || e != api.ErrNone {
		t.Errorf("Log(0) = %d, %d", k, e)
	}
}

// P1.4: the elements of Fused, for every factor.
func TestFusedElements(t *testing.T) {
	dst, src := make([]byte, 256), make([]byte, 256)
	for i := range 256 {
		dst[i], src[i] = byte(7*i+3), byte(i)
	}
	for c := range 256 {
		list, e := Fused(dst, src, byte(c))
		if e != api.OK || len(list) != 256 {
			t.Fatalf("factor %d: %d elements, %d", c, len(list), e)
		}
		for i, v := range list {
			if want := dst[i] ^ fieldtest.Times(byte(c), src[i]); v != want {
				t.Fatalf("factor %d, element %d: %d, not %d", c, i, v, want)
			}
		}
	}
	if list, e := Fused([]byte{1, 2}, []byte{3, 4}, 2); e != api.OK || !bytes.Equal(list, []byte{7, 10}) {
		t.Errorf("the example: %v, %d", list, e)
	}
}

// P1.4: lists without elements are permitted, nil ones too.
func TestFusedEmpty(t *testing.T) {
	for _, lists := range [][2][]byte{{nil, nil}, {{}, {}}, {nil, {}}, {{}, nil}} {
		if list, e := Fused(lists[0], lists[1], 5); len(list) != 0 || e != api.OK {
			t.Errorf("%v, %d", list, e)
		}
	}
}

// P1.4: lists of different lengths, with a zero result.
func TestFusedLengths(t *testing.T) {
	for _, lists := range [][2][]byte{{{1}, nil}, {nil, {1}}, {{1, 2}, {1}}, {{1}, {1, 2}}} {
		for _, c := range []byte{0, 1, 2} {
			if list, e := Fused(lists[0], lists[1], c); len(list) != 0 || e != api.ErrArg {
				t.Errorf("Fused(%v, %v, %d) = %v, %d", lists[0], lists[1], c, list, e)
			}
		}
	}
}

// P1.4: the list is new memory, also where there is nothing to be added, and the arguments stay as they are.
func TestFusedMemory(t *testing.T) {
	for _, c := range []byte{0, 1, 2, 255} {
		dst, src := []byte{1, 2, 3, 99}, []byte{4, 5, 6, 99}
		first, _ := Fused(dst[:3], src[:3], c)
		kept := slices.Clone(first)
		second, _ := Fused(dst[:3], src[:3], c)
		for i := range second {
			second[i] ^= 255
		}
		_ = append(first, 7)
		if !bytes.Equal(dst, []byte{1, 2, 3, 99}) || !bytes.Equal(src, []byte{4, 5, 6, 99}) {
			t.Errorf("factor %d: the arguments became %v, %v", c, dst, src)
		}
		for i := range dst {
			dst[i], src[i] = 0, 0
		}
		if !bytes.Equal(first, kept) {
			t.Errorf("factor %d: the list became %v", c, first)
		}
	}
}

// P1.4: both arguments may be the same memory, or overlap.
func TestFusedOverlap(t *testing.T) {
	list := []byte{1, 2, 3, 4}
	if same, e := Fused(list, list, 2); e != api.OK || !bytes.Equal(same, []byte{3, 6, 5, 12}) {
		t.Errorf("the same memory: %v, %d", same, e)
	}
	if shifted, e := Fused(list[1:], list[:3], 1); e != api.OK || !bytes.Equal(shifted, []byte{3, 1, 7}) {
		t.Errorf("overlapping memory: %v, %d", shifted, e)
	}
	if !bytes.Equal(list, []byte{1, 2, 3, 4}) {
		t.Errorf("the argument became %v", list)
	}
}
