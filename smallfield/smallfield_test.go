package smallfield_test

import (
	"math"
	"slices"
	"testing"

	"tegula/api"
	"tegula/smallfield"
)

// reference describes a field by the modulus of its polynomials, from the constant coefficient on. Elements of prime fields are polynomials without x, so x is a modulus for them.
type reference struct {
	size, prime int
	modulus     []int
}

func references() []reference {
	return []reference{
		{2, 2, []int{0, 1}},
		{3, 3, []int{0, 1}},
		{4, 2, []int{1, 1, 1}},
		{5, 5, []int{0, 1}},
		{7, 7, []int{0, 1}},
		{8, 2, []int{1, 1, 0, 1}},
		{9, 3, []int{1, 0, 1}},
	}
}

// coefficients returns those of the polynomial for which an element stands.
func (r reference) coefficients(a int) []int {
	list := make([]int, len(r.modulus)-1)
	for i := range list {
		list[i] = a % r.prime
		a /= r.prime
	}
	return list
}

// element returns the element that stands for a polynomial.
func (r reference) element(coefficients []int) int {
	a := 0
	for i := len(coefficients) - 1; i >= 0; i-- {
		a = a*r.prime + coefficients[i]
	}
	return a
}

// sum adds the coefficients.
func (r reference) sum(a, b int) int {
	x, y := r.coefficients(a), r.coefficients(b)
	for i := range x {
		x[i] = (x[i] + y[i]) % r.prime
	}
	return r.element(x)
}

// product multiplies the polynomials first, and divides by the modulus then.
func (r reference) product(a, b int) int {
	x, y := r.coefficients(a), r.coefficients(b)
	degree := len(r.modulus) - 1
	whole := make([]int, 2*degree-1)
	for i := range x {
		for j := range y {
			whole[i+j] = (whole[i+j] + x[i]*y[j]) % r.prime
		}
	}
	for i := len(whole) - 1; i >= degree; i-- {
		quotient := whole[i]
		for j, c := range r.modulus {
			k := i - degree + j
			whole[k] = (whole[k] + (r.prime-c)*quotient) % r.prime
		}
	}
	return r.element(whole[:degree])
}

// newField returns a field that exists.
func newField(t *testing.T, q int) *smallfield.Field {
	t.Helper()
	f, e := smallfield.New(q)
	if f == nil || e != api.OK {
		t.Fatalf("New(%d): %v, error %d", q, f, e)
	}
	return f
}

// strangers returns numbers that are no elements of the field with q elements.
func strangers(q int) []int {
	return []int{-1, q, q + 1, -q, 10, math.MaxInt, math.MinInt}
}

// P5.1: the sizes, in increasing order, as new memory for each call.
func TestSizes(t *testing.T) {
	want := []int{2, 3, 4, 5, 7, 8, 9}
	sizes := smallfield.Sizes()
	if !slices.Equal(sizes, want) {
		t.Fatalf("Sizes() = %v", sizes)
	}
	clear(sizes)
	if again := smallfield.Sizes(); !slices.Equal(again, want) {
		t.Errorf("Sizes() = %v after a change of an earlier result", again)
	}
}

// P5.1: New returns a field for each of the sizes and for nothing else.
func TestNew(t *testing.T) {
	for _, r := range references() {
		f := newField(t, r.size)
		if f.Size() != r.size || f.Prime() != r.prime {
			t.Errorf("New(%d): size %d, prime %d", r.size, f.Size(), f.Prime())
		}
	}
	others := []int{math.MinInt, -9, -4, -3, -2, -1, 0, 1, 6, math.MaxInt}
	for q := 10; q < 300; q++ {
		others = append(others, q)
	}
	for _, q := range others {
		if f, e := smallfield.New(q); f != nil || e != api.ErrArg {
			t.Errorf("New(%d): %v, error %d", q, f, e)
		}
	}
}

// P5.1: fields of different sizes do not disturb each other.
func TestFieldsSideBySide(t *testing.T) {
	three, nine := newField(t, 3), newField(t, 9)
	other := newField(t, 3)
	if three == other {
		t.Error("New(3) returned the same pointer twice")
	}
	if three.Size() != 3 || nine.Size() != 9 || three.Mul(2, 2) != 1 || nine.Mul(3, 3) != 2 {
		t.Error("a field changed when another one was made")
	}
}

// P5.2: all sums and products.
func TestSumsAndProducts(t *testing.T) {
	for _, r := range references() {
		f := newField(t, r.size)
		for a := range r.size {
			for b := range r.size {
				if s := f.Add(a, b); s != r.sum(a, b) {
					t.Errorf("size %d: Add(%d, %d) = %d, not %d", r.size, a, b, s, r.sum(a, b))
				}
				if p := f.Mul(a, b); p != r.product(a, b) {
					t.Errorf("size %d: Mul(%d, %d) = %d, not %d", r.size, a, b, p, r.product(a, b))
				}
			}
		}
	}
}

// P5.2: in the prime fields, sums and products are those of the integers.
func TestPrimeFields(t *testing.T) {
	for _, q := range []int{2, 3, 5, 7} {
		f := newField(t, q)
		for a := range q {
			for b := range q {
				if s, p := f.Add(a, b), f.Mul(a, b); s != (a+b)%q || p != a*b%q {
					t.Errorf("size %d: %d and %d: sum %d, product %d", q, a, b, s, p)
				}
			}
		}
	}
}

// P5.2: the examples of the chapter.
func TestExamples(t *testing.T) {
	four, eight, nine, seven := newField(t, 4), newField(t, 8), newField(t, 9), newField(t, 7)
	for _, c := range []struct {
		name      string
		got, want int
	}{
		{"2 times 2 of 4", four.Mul(2, 2), 3},
		{"2 times 3 of 4", four.Mul(2, 3), 1},
		{"2 times 4 of 8", eight.Mul(2, 4), 3},
		{"3 times 3 of 9", nine.Mul(3, 3), 2},
		{"5 plus 5 of 9", nine.Add(5, 5), 7},
		{"inverse of 3 of 9", nine.Inv(3), 6},
		{"inverse of 3 of 7", seven.Inv(3), 5},
	} {
		if c.got != c.want {
			t.Errorf("%s: %d, not %d", c.name, c.got, c.want)
		}
	}
}

// P5.2: negated elements and inverses, of which there is exactly one each.
func TestNegatedAndInverse(t *testing.T) {
	for _, r := range references() {
		f := newField(t, r.size)
		for a := range r.size {
			for b := range r.size {
				if (f.Neg(a) == b) != (r.sum(a, b) == 0) {
					t.Errorf("size %d: Neg(%d) = %d", r.size, a, f.Neg(a))
				}
				if (f.Inv(a) == b) != (r.product(a, b) == 1) {
					t.Errorf("size %d: Inv(%d) = %d", r.size, a, f.Inv(a))
				}
			}
		}
		if f.Inv(0) != -1 {
			t.Errorf("size %d: Inv(0) = %d", r.size, f.Inv(0))
		}
	}
}

// P5.2, P1: arguments that are no elements.
func TestStrangers(t *testing.T) {
	for _, q := range smallfield.Sizes() {
		f := newField(t, q)
		for _, s := range strangers(q) {
			if f.Neg(s) != -1 || f.Inv(s) != -1 {
				t.Errorf("size %d: Neg(%d) = %d, Inv(%d) = %d", q, s, f.Neg(s), s, f.Inv(s))
			}
			for _, b := range append(strangers(q), 0, 1, q-1) {
				for _, got := range []int{f.Add(s, b), f.Add(b, s), f.Mul(s, b), f.Mul(b, s)} {
					if got != -1 {
						t.Errorf("size %d: sum or product of %d and %d: %d", q, s, b, got)
					}
				}
			}
		}
	}
}

// P5.1, P1: the methods of a nil pointer.
func TestNilField(t *testing.T) {
	var f *smallfield.Field
	if f.Size() != 0 || f.Prime() != 0 {
		t.Errorf("nil: size %d, prime %d", f.Size(), f.Prime())
	}
	for _, a := range []int{0, 1, 2, -1, math.MaxInt, math.MinInt} {
		for _, got := range []int{f.Add(a, 1), f.Add(1, a), f.Mul(a, 1), f.Mul(1, a), f.Neg(a), f.Inv(a)} {
			if got != -1 {
				t.Errorf("nil: %d for %d", got, a)
			}
		}
	}
}

// P5.3: the axioms for two elements: closure, commutativity, neutral elements and inverses.
func TestAxiomsOfPairs(t *testing.T) {
	for _, q := range smallfield.Sizes() {
		f := newField(t, q)
		for a := range q {
			if f.Add(a, 0) != a || f.Mul(a, 1) != a || f.Mul(a, 0) != 0 || f.Add(a, f.Neg(a)) != 0 {
				t.Errorf("size %d: neutral elements and %d", q, a)
			}
			if a != 0 && f.Mul(a, f.Inv(a)) != 1 {
				t.Errorf("size %d: the inverse of %d", q, a)
			}
			for b := range q {
				s, p := f.Add(a, b), f.Mul(a, b)
				if s < 0 || s >= q || p < 0 || p >= q {
					t.Errorf("size %d: %d and %d: sum %d, product %d", q, a, b, s, p)
				}
				if s != f.Add(b, a) || p != f.Mul(b, a) {
					t.Errorf("size %d: %d and %d do not commute", q, a, b)
				}
				if (p == 0) != (a == 0 || b == 0) {
					t.Errorf("size %d: %d times %d is %d", q, a, b, p)
				}
			}
		}
	}
}

// P5.3: the axioms for three elements: associativity and distributivity.
func TestAxiomsOfTriples(t *testing.T) {
	for _, q := range smallfield.Sizes() {
		f := newField(t, q)
		for n := range q * q * q {
			a, b, c := n/q/q, n/q%q, n%q
			if f.Add(f.Add(a, b), c) != f.Add(a, f.Add(b, c)) {
				t.Errorf("size %d: sums of %d, %d, %d", q, a, b, c)
			}
			if f.Mul(f.Mul(a, b), c) != f.Mul(a, f.Mul(b, c)) {
				t.Errorf("size %d: products of %d, %d, %d", q, a, b, c)
			}
			if f.Mul(a, f.Add(b, c)) != f.Add(f.Mul(a, b), f.Mul(a, c)) {
				t.Errorf("size %d: %d times the sum of %d and %d", q, a, b, c)
			}
		}
	}
}

// repeated returns the result of an operation on n times the same element, for n of at least 1.
func repeated(operation func(a, b int) int, a, n int) int {
	result := a
	for range n - 1 {
		result = operation(result, a)
	}
	return result
}

// P5.3: p times an element is 0, and fewer times only if it is 0; the p-th power of a sum is the sum of the p-th powers.
func TestCharacteristic(t *testing.T) {
	for _, q := range smallfield.Sizes() {
		f := newField(t, q)
		p := f.Prime()
		for a := range q {
			for n := 1; n <= p; n++ {
				if (repeated(f.Add, a, n) == 0) != (a == 0 || n == p) {
					t.Errorf("size %d: %d times %d", q, n, a)
				}
			}
			for b := range q {
				power := repeated(f.Mul, f.Add(a, b), p)
				if power != f.Add(repeated(f.Mul, a, p), repeated(f.Mul, b, p)) {
					t.Errorf("size %d: the power of the sum of %d and %d is %d", q, a, b, power)
				}
			}
		}
	}
}
