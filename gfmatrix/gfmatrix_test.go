package gfmatrix

import (
	"bytes"
	"math"
	"slices"
	"testing"

	"tegula/api"
	"tegula/fieldtest"
)

// longMul computes a product element by element.
func longMul(a, b [][]byte) [][]byte {
	product := make([][]byte, len(a))
	for i := range a {
		for k := range b[0] {
			var sum byte
			for j := range b {
				sum ^= fieldtest.Times(a[i][j], b[j][k])
			}
			product[i] = append(product[i], sum)
		}
	}
	return product
}

// minor leaves out a row and a column.
func minor(m [][]byte, row, col int) [][]byte {
	var rest [][]byte
	for i := range m {
		if i != row {
			rest = append(rest, slices.Concat(m[i][:col], m[i][col+1:]))
		}
	}
	return rest
}

// determinant expands along the first row.
func determinant(m [][]byte) byte {
	if len(m) == 0 {
		return 1
	}
	var sum byte
	for k, element := range m[0] {
		if element != 0 {
			sum ^= fieldtest.Times(element, determinant(minor(m, 0, k)))
		}
	}
	return sum
}

// adjugate is the determinant times the inverse.
func adjugate(m [][]byte) [][]byte {
	adjugate := make([][]byte, len(m))
	for i := range m {
		for k := range m {
			adjugate[i] = append(adjugate[i], determinant(minor(m, k, i)))
		}
	}
	return adjugate
}

// subsets lists the subsets of the numbers below n that have size elements.
func subsets(n, size int) [][]int {
	var all [][]int
	for set := range 1 << n {
		var numbers []int
		for i := range n {
			if set>>i&1 == 1 {
				numbers = append(numbers, i)
			}
		}
		if len(numbers) == size {
			all = append(all, numbers)
		}
	}
	return all
}

// part takes some rows and columns.
func part(m [][]byte, rows, cols []int) [][]byte {
	var taken [][]byte
	for _, row := range rows {
		var elements []byte
		for _, col := range cols {
			elements = append(elements, m[row][col])
		}
		taken = append(taken, elements)
	}
	return taken
}

// independent reports whether some rows are, by the determinants of all their square parts.
func independent(m [][]byte, rows []int) bool {
	return slices.ContainsFunc(subsets(len(m[0]), len(rows)), func(cols []int) bool {
		return determinant(part(m, rows, cols)) != 0
	})
}

// firstRows are the first independent rows, by the definition.
func firstRows(m [][]byte) []int {
	var rows []int
	for i := range m {
		if independent(m, append(slices.Clone(rows), i)) {
			rows = append(rows, i)
		}
	}
	return rows
}

// source is a source of elements that is the same in every run.
type source uint32

func (s *source) next() byte {
	*s = *s*1664525 + 1013904223
	return byte(*s >> 24)
}

func (s *source) matrix(rows, cols int) [][]byte {
	m := make([][]byte, rows)
	for i := range m {
		for range cols {
			m[i] = append(m[i], s.next())
		}
	}
	return m
}

// filled returns a matrix with the same element everywhere.
func filled(rows, cols int, element byte) [][]byte {
	m := make([][]byte, rows)
	for i := range m {
		m[i] = bytes.Repeat([]byte{element}, cols)
	}
	return m
}

func same(a, b [][]byte) bool {
	return slices.EqualFunc(a, b, bytes.Equal)
}

func clone(m [][]byte) [][]byte {
	c := make([][]byte, len(m))
	for i, row := range m {
		c[i] = slices.Clone(row)
	}
	return c
}

// everyMatrix calls f with all matrices of elements from a list.
func everyMatrix(rows, cols int, elements []byte, f func([][]byte)) {
	m := filled(rows, cols, 0)
	count := 1
	for range rows * cols {
		count *= len(elements)
	}
	for number := range count {
		for _, row := range m {
			for k := range row {
				row[k] = elements[number%len(elements)]
				number /= len(elements)
			}
		}
		f(m)
	}
}

// invalid lists matrices that are not valid.
func invalid() map[string][][]byte {
	ragged := filled(64, 64, 1)
	ragged[63] = ragged[63][:63]
	return map[string][][]byte{
		"nil":               nil,
		"no rows":           {},
		"no columns":        {{}},
		"nil rows":          {nil, nil},
		"a shorter row":     {{1, 2}, {1}},
		"a longer row":      {{1}, {1, 2}},
		"a longer last row": {{1}, {1}, {1, 2}},
		"a nil row":         {{1}, nil, {1}},
		"an empty row":      {{}, {1}},
		"too many rows":     filled(65, 1, 1),
		"too many columns":  filled(1, 65, 1),
		"too many of both":  filled(65, 65, 1),
		"a ragged large":    ragged,
		"far too many rows": filled(5000, 1, 1),
	}
}

// P2.1: Valid.
func TestValid(t *testing.T) {
	for rows := 1; rows <= 64; rows++ {
		for _, cols := range []int{1, 2, 63, 64} {
			if !Valid(filled(rows, cols, 0)) || !Valid(filled(cols, rows, 7)) {
				t.Errorf("%d, %d is not valid", rows, cols)
			}
		}
	}
	for name, m := range invalid() {
		if Valid(m) {
			t.Errorf("%s is valid", name)
		}
	}
}

// P2.1: Identity.
func TestIdentity(t *testing.T) {
	for n := 1; n <= 64; n++ {
		m, e := Identity(n)
		if e != api.OK || len(m) != n {
			t.Fatalf("Identity(%d): %d rows, %d", n, len(m), e)
		}
		for i, row := range m {
			want := make([]byte, n)
			want[i] = 1
			if !bytes.Equal(row, want) {
				t.Errorf("Identity(%d), row %d: %v", n, i, row)
			}
		}
	}
	for _, n := range []int{0, 65, -1, 66, 1000, math.MaxInt, math.MinInt} {
		if m, e := Identity(n); m != nil || e != api.ErrArg {
			t.Errorf("Identity(%d) = %v, %d", n, m, e)
		}
	}
}

// P2.2: Mul.
func TestMul(t *testing.T) {
	s := source(1)
	sides := []int{1, 2, 3, 7, 64}
	for _, rows := range sides {
		for _, inner := range sides {
			for _, cols := range sides {
				a, b := s.matrix(rows, inner), s.matrix(inner, cols)
				if p, e := Mul(a, b); e != api.OK || !same(p, longMul(a, b)) {
					t.Fatalf("%d, %d, %d: a wrong product, %d", rows, inner, cols, e)
				}
			}
		}
	}
}

// P2.2: the matrices of a product need to fit at the inner side only.
func TestMulSizes(t *testing.T) {
	for rows := 1; rows <= 4; rows++ {
		for inner := 1; inner <= 4; inner++ {
			for other := 1; other <= 4; other++ {
				p, e := Mul(filled(rows, inner, 1), filled(other, 2, 1))
				if inner == other && (e != api.OK || len(p) != rows || len(p[0]) != 2) {
					t.Errorf("%d, %d: %v, %d", rows, inner, p, e)
				}
				if inner != other && (e != api.ErrArg || p != nil) {
					t.Errorf("%d, %d by %d: %v, %d", rows, inner, other, p, e)
				}
			}
		}
	}
}

// P2.2: Apply.
func TestApply(t *testing.T) {
	s := source(2)
	for _, rows := range []int{1, 2, 5, 64} {
		for _, cols := range []int{1, 2, 5, 64} {
			m, column := s.matrix(rows, cols), s.matrix(cols, 1)
			v := slices.Concat(column...)
			p, e := Apply(m, v)
			if e != api.OK || !bytes.Equal(p, slices.Concat(longMul(m, column)...)) {
				t.Errorf("%d, %d: %v, %d", rows, cols, p, e)
			}
			for _, wrong := range [][]byte{nil, {}, v[:cols-1], append(v, 1)} {
				if p, e := Apply(m, wrong); p != nil || e != api.ErrArg {
					t.Errorf("%d elements for %d columns: %v, %d", len(wrong), cols, p, e)
				}
			}
		}
	}
}

// P2.2: Transpose.
func TestTranspose(t *testing.T) {
	s := source(3)
	for _, rows := range []int{1, 2, 5, 64} {
		for _, cols := range []int{1, 3, 64} {
			m := s.matrix(rows, cols)
			p, e := Transpose(m)
			if e != api.OK || len(p) != cols || !Valid(p) || len(p[0]) != rows {
				t.Fatalf("%d, %d: %v, %d", rows, cols, p, e)
			}
			for i := range m {
				for k := range m[i] {
					if p[k][i] != m[i][k] {
						t.Fatalf("%d, %d: element %d, %d", rows, cols, i, k)
					}
				}
			}
		}
	}
}

// P2.3: Select, with numbers in any order that may be repeated.
func TestSelect(t *testing.T) {
	m := [][]byte{{1, 2, 3}, {4, 5, 6}}
	for _, c := range []struct {
		rows, cols []int
		want       [][]byte
	}{
		{[]int{0, 1}, []int{0, 1, 2}, m},
		{[]int{1, 0}, []int{2, 1, 0}, [][]byte{{6, 5, 4}, {3, 2, 1}}},
		{[]int{1}, []int{0}, [][]byte{{4}}},
		{[]int{0, 0, 1, 0}, []int{2, 2}, [][]byte{{3, 3}, {3, 3}, {6, 6}, {3, 3}}},
		{[]int{1, 1, 1}, []int{0, 2, 0, 2}, [][]byte{{4, 6, 4, 6}, {4, 6, 4, 6}, {4, 6, 4, 6}}},
	} {
		if p, e := Select(m, c.rows, c.cols); e != api.OK || !same(p, c.want) {
			t.Errorf("%v, %v: %v, %d", c.rows, c.cols, p, e)
		}
	}
	s := source(4)
	large, rows, cols := s.matrix(64, 64), make([]int, 64), make([]int, 64)
	for i := range rows {
		rows[i], cols[i] = int(s.next())%64, int(s.next())%64
	}
	rows[0], cols[63] = 63, 63
	if p, e := Select(large, rows, cols); e != api.OK || !same(p, part(large, rows, cols)) {
		t.Errorf("64 rows and columns: %v, %d", p, e)
	}
}

// P2.3: the errors of Select, and which of them comes first.
func TestSelectErrors(t *testing.T) {
	m := [][]byte{{1, 2, 3}, {4, 5, 6}}
	good, many := []int{0, 1}, make([]int, 65)
	for _, c := range []struct {
		rows, cols []int
		want       api.Errno
	}{
		{nil, good, api.ErrArg}, {good, nil, api.ErrArg}, {nil, nil, api.ErrArg}, {[]int{}, good, api.ErrArg}, {good, []int{}, api.ErrArg},
		{many, good, api.ErrArg}, {good, many, api.ErrArg}, {many[:64], many[:64], api.OK},
		{[]int{2}, good, api.ErrRange}, {[]int{0, 1, -1}, good, api.ErrRange}, {good, []int{3}, api.ErrRange}, {good, []int{-1}, api.ErrRange},
		{[]int{math.MaxInt}, good, api.ErrRange}, {[]int{math.MinInt}, good, api.ErrRange}, {good, []int{0, math.MaxInt}, api.ErrRange}, {good, []int{math.MinInt, 0}, api.ErrRange},
		{[]int{2}, nil, api.ErrArg}, {nil, []int{3}, api.ErrArg}, {[]int{-1}, many, api.ErrArg}, {many, []int{-1}, api.ErrArg},
	} {
		if p, e := Select(m, c.rows, c.cols); e != c.want || (e != api.OK && p != nil) {
			t.Errorf("%v, %v: %v, %d, not %d", c.rows, c.cols, p, e, c.want)
		}
	}
}

// P2.4, P2.5: all matrices of some sizes with the elements 0, 1, 2, by determinants.
func TestSmallMatrices(t *testing.T) {
	for _, size := range [][2]int{{1, 1}, {1, 3}, {2, 2}, {2, 3}, {3, 1}, {3, 2}, {4, 2}, {3, 3}} {
		everyMatrix(size[0], size[1], []byte{0, 1, 2}, func(m [][]byte) { checkMatrix(t, m) })
	}
	everyMatrix(4, 3, []byte{0, 1}, func(m [][]byte) { checkMatrix(t, m) })
	everyMatrix(4, 4, []byte{0, 1}, func(m [][]byte) { checkMatrix(t, m) })
}

// checkMatrix compares the results for a small matrix with those of the definitions.
func checkMatrix(t *testing.T, m [][]byte) {
	t.Helper()
	rows := firstRows(m)
	if rank, e := Rank(m); rank != len(rows) || e != api.OK {
		t.Fatalf("Rank(%v) = %d, %d", m, rank, e)
	}
	if len(m) == len(m[0]) {
		inverse, e := Inverse(m)
		checkInverse(t, m, inverse, e)
	}
	left, numbers, e := LeftInverse(m)
	if len(rows) < len(m[0]) {
		if e != api.ErrDivide || left != nil || numbers != nil {
			t.Fatalf("LeftInverse(%v) = %v, %v, %d", m, left, numbers, e)
		}
		return
	}
	if !slices.Equal(numbers, rows) {
		t.Fatalf("LeftInverse(%v): the rows %v, not %v, %d", m, numbers, rows, e)
	}
	square := make([][]byte, len(rows))
	for i, row := range rows {
		square[i] = m[row]
	}
	checkInverse(t, square, left, e)
}

// checkInverse compares the inverse of a small matrix with its adjugate.
func checkInverse(t *testing.T, m, inverse [][]byte, e api.Errno) {
	t.Helper()
	d := determinant(m)
	if d == 0 {
		if inverse != nil || e != api.ErrDivide {
			t.Fatalf("the inverse of %v: %v, %d", m, inverse, e)
		}
		return
	}
	if e != api.OK || len(inverse) != len(m) {
		t.Fatalf("the inverse of %v: %v, %d", m, inverse, e)
	}
	scaled := clone(inverse)
	for _, row := range scaled {
		for k := range row {
			row[k] = fieldtest.Times(row[k], d)
		}
	}
	if !same(scaled, adjugate(m)) {
		t.Fatalf("the inverse of %v: %v", m, inverse)
	}
}

// P2.4, P2.5: matrices of all elements up to 5 rows and 4 columns, by determinants, with rows that depend on others.
func TestRandomMatrices(t *testing.T) {
	s := source(5)
	for round := range 400 {
		rows, cols := 1+round%5, 1+round/5%4
		m := s.matrix(rows, cols)
		for i := range m {
			if i > 0 && s.next()%3 == 0 {
				m[i] = slices.Concat(longMul([][]byte{{s.next(), s.next()}}, [][]byte{m[0], m[i-1]})...)
			}
			if s.next()%8 == 0 {
				m[i] = make([]byte, cols)
			}
		}
		checkMatrix(t, m)
	}
}

// P2.4: the examples of the chapter.
func TestInverseExample(t *testing.T) {
	if inverse, e := Inverse([][]byte{{1, 1}, {1, 2}}); e != api.OK || !same(inverse, [][]byte{{245, 244}, {244, 244}}) {
		t.Errorf("%v, %d", inverse, e)
	}
	if rank, e := Rank([][]byte{{1, 1}, {2, 2}, {0, 3}}); rank != 2 || e != api.OK {
		t.Errorf("the rank %d, %d", rank, e)
	}
}

// P2.5: the example of the chapter.
func TestLeftInverseExample(t *testing.T) {
	left, rows, e := LeftInverse([][]byte{{1, 1}, {2, 2}, {0, 3}})
	if e != api.OK || !slices.Equal(rows, []int{0, 2}) || !same(left, [][]byte{{1, 244}, {0, 244}}) {
		t.Errorf("%v, %v, %d", left, rows, e)
	}
}

// P2.4: rank and inverse of large matrices. The product of triangular ones has an inverse; the rank of a product with few inner rows is their number.
func TestLargeInverses(t *testing.T) {
	s := source(6)
	for _, n := range []int{16, 63, 64} {
		lower, upper := s.matrix(n, n), s.matrix(n, n)
		for i := range n {
			lower[i][i], upper[i][i] = byte(i+1), byte(255-i)
			for k := range i {
				lower[k][i], upper[i][k] = 0, 0
			}
		}
		m, one := longMul(lower, upper), filled(n, n, 0)
		for i := range one {
			one[i][i] = 1
		}
		slices.Reverse(m)
		inverse, e := Inverse(m)
		if e != api.OK || !same(longMul(m, inverse), one) || !same(longMul(inverse, m), one) {
			t.Errorf("%d rows: %v, %d", n, inverse, e)
		}
		if rank, e := Rank(m); rank != n || e != api.OK {
			t.Errorf("%d rows: the rank %d, %d", n, rank, e)
		}
		m[n-1] = slices.Concat(longMul([][]byte{{3, 5}}, m[:2])...)
		if inverse, e := Inverse(m); inverse != nil || e != api.ErrDivide {
			t.Errorf("%d dependent rows: %v, %d", n, inverse, e)
		}
		if rank, e := Rank(m); rank != n-1 || e != api.OK {
			t.Errorf("%d dependent rows: the rank %d, %d", n, rank, e)
		}
	}
}

// P2.4: the rank of matrices that are not square, and of those without elements other than 0.
func TestRanks(t *testing.T) {
	s := source(7)
	for _, c := range []struct{ rows, cols, rank int }{{64, 5, 5}, {5, 64, 5}, {64, 64, 9}, {64, 40, 1}, {1, 64, 1}, {64, 1, 1}} {
		left, right := s.matrix(c.rows, c.rank), s.matrix(c.rank, c.cols)
		for i := range c.rank {
			for k := range c.rank {
				left[c.rows-1-i][k], right[k][c.cols-1-i] = 0, 0
			}
			left[c.rows-1-i][i], right[i][c.cols-1-i] = byte(i+1), byte(i+2)
		}
		if rank, e := Rank(longMul(left, right)); rank != c.rank || e != api.OK {
			t.Errorf("%v: %d, %d", c, rank, e)
		}
		if rank, e := Rank(filled(c.rows, c.cols, 0)); rank != 0 || e != api.OK {
			t.Errorf("%v zeros: %d, %d", c, rank, e)
		}
	}
}

// P2.4: a matrix that is not square gets ErrArg, whatever its rank is.
func TestInverseErrors(t *testing.T) {
	for _, m := range [][][]byte{{{1, 0}}, {{0, 0}}, {{1}, {2}}, {{0}, {0}}, filled(64, 63, 0), filled(63, 64, 1)} {
		if inverse, e := Inverse(m); inverse != nil || e != api.ErrArg {
			t.Errorf("%v: %v, %d", m, inverse, e)
		}
	}
	for _, m := range [][][]byte{{{0}}, {{1, 1}, {1, 1}}, {{0, 0}, {0, 1}}, filled(64, 64, 1)} {
		if inverse, e := Inverse(m); inverse != nil || e != api.ErrDivide {
			t.Errorf("%v: %v, %d", m, inverse, e)
		}
	}
}

// P2.5: the left inverse returns x for the product of m and x.
func TestLeftInverseProperty(t *testing.T) {
	s := source(8)
	for _, cols := range []int{1, 2, 13, 40} {
		m, x := s.matrix(64, cols), s.matrix(cols, 1)
		for i := range 20 {
			m[3*i] = slices.Clone(m[0])
		}
		left, rows, e := LeftInverse(m)
		if e != api.OK || len(rows) != cols || rows[0] != 0 || !slices.IsSorted(rows) {
			t.Fatalf("%d columns: the rows %v, %d", cols, rows, e)
		}
		product := longMul(m, x)
		y := make([][]byte, cols)
		for i, row := range rows {
			y[i] = product[row]
		}
		if !same(longMul(left, y), x) {
			t.Errorf("%d columns: %v, %v", cols, left, rows)
		}
	}
}

// P2.5: fewer independent rows than columns, also where there are enough rows.
func TestLeftInverseErrors(t *testing.T) {
	for _, m := range [][][]byte{{{1, 1}}, {{0}}, {{0}, {0}}, {{1, 2}, {2, 4}, {3, 6}}, filled(64, 2, 5), filled(63, 64, 1), filled(1, 64, 1)} {
		if left, rows, e := LeftInverse(m); left != nil || rows != nil || e != api.ErrDivide {
			t.Errorf("%v: %v, %v, %d", m, left, rows, e)
		}
	}
}

// All functions return ErrArg, before any other error and with zero results, if a matrix is not valid.
func TestInvalidMatrices(t *testing.T) {
	good := [][]byte{{1}}
	for name, m := range invalid() {
		first, e1 := Mul(m, good)
		second, e2 := Mul(good, m)
		both, e3 := Mul(m, m)
		transposed, e4 := Transpose(m)
		inverse, e5 := Inverse(m)
		for i, e := range []api.Errno{e1, e2, e3, e4, e5} {
			if e != api.ErrArg {
				t.Errorf("%s: the error %d of call %d", name, e, i)
			}
		}
		if first != nil || second != nil || both != nil || transposed != nil || inverse != nil {
			t.Errorf("%s: a result with an error", name)
		}
		for _, v := range [][]byte{nil, {1}, {1, 2}, make([]byte, 65)} {
			if p, e := Apply(m, v); p != nil || e != api.ErrArg {
				t.Errorf("%s: Apply: %v, %d", name, p, e)
			}
		}
		for _, numbers := range [][]int{nil, {0}, {-1}, {100}} {
			if p, e := Select(m, numbers, numbers); p != nil || e != api.ErrArg {
				t.Errorf("%s: Select: %v, %d", name, p, e)
			}
		}
		if rank, e := Rank(m); rank != 0 || e != api.ErrArg {
			t.Errorf("%s: Rank: %d, %d", name, rank, e)
		}
		if left, rows, e := LeftInverse(m); left != nil || rows != nil || e != api.ErrArg {
			t.Errorf("%s: LeftInverse: %v, %v, %d", name, left, rows, e)
		}
	}
}

// results calls all functions that return matrices with square matrices.
func results(a, b [][]byte, numbers []int) map[string][][]byte {
	one, _ := Identity(len(a))
	product, _ := Mul(a, b)
	applied, _ := Apply(a, b[0])
	transposed, _ := Transpose(a)
	selected, _ := Select(a, numbers, numbers)
	inverse, _ := Inverse(a)
	left, _, _ := LeftInverse(a)
	return map[string][][]byte{
		"Identity": one, "Mul": product, "Apply": {applied}, "Transpose": transposed, "Select": selected, "Inverse": inverse, "LeftInverse": left,
	}
}

// The results are new memory, row by row, and the arguments stay as they are. Zeros and ones in the matrices invite shortcuts.
func TestMemory(t *testing.T) {
	for _, a := range [][][]byte{{{1, 0, 0}, {0, 1, 0}, {0, 0, 1}}, {{0, 0, 1}, {2, 1, 0}, {1, 1, 1}}, {{7}}} {
		b, numbers := slices.Repeat([][]byte{a[0]}, len(a)), make([]int, len(a))
		for i := range numbers {
			numbers[i] = i / 2
		}
		a1, b1, numbers1 := clone(a), clone(b), slices.Clone(numbers)
		first, second := results(a, b, numbers), results(a, b, numbers)
		for name, m := range first {
			for i, row := range m {
				for k := range row {
					row[k] ^= 255
				}
				_ = append(row, 9)
				m[i] = nil
				for j := i + 1; j < len(m); j++ {
					if !bytes.Equal(m[j], second[name][j]) {
						t.Errorf("%s: the rows %d and %d share memory", name, i, j)
					}
				}
			}
			if rank, e := Rank(a); rank != len(a) || e != api.OK {
				t.Errorf("%s: the rank became %d, %d", name, rank, e)
			}
		}
		if !same(a, a1) || !same(b, b1) || !slices.Equal(numbers, numbers1) {
			t.Errorf("the arguments became %v, %v, %v", a, b, numbers)
		}
		third := results(a, b, numbers)
		for name, m := range second {
			if !same(m, third[name]) {
				t.Errorf("%s: %v, then %v", name, m, third[name])
			}
		}
	}
}

// A change of an argument after the call does not reach the results.
func TestKeptMemory(t *testing.T) {
	a, b, numbers := [][]byte{{1, 0}, {0, 1}}, [][]byte{{1, 1}, {1, 0}}, []int{1, 0}
	got, want := results(a, b, numbers), results(clone(a), clone(b), slices.Clone(numbers))
	for i := range a {
		a[i][0], a[i][1], b[i][0], b[i][1], numbers[i] = 9, 9, 9, 9, 9
	}
	for name, m := range got {
		if !same(m, want[name]) {
			t.Errorf("%s: %v, not %v", name, m, want[name])
		}
	}
}

// Rows of an argument may be the same memory.
func TestSharedRows(t *testing.T) {
	row := []byte{1, 2}
	m := [][]byte{row, row, {0, 1}}
	left, rows, e := LeftInverse(m)
	if e != api.OK || !slices.Equal(rows, []int{0, 2}) || !same(left, [][]byte{{1, 2}, {0, 1}}) {
		t.Errorf("%v, %v, %d", left, rows, e)
	}
	if rank, e := Rank(m); rank != 2 || e != api.OK {
		t.Errorf("the rank %d, %d", rank, e)
	}
	if inverse, e := Inverse(m[:2]); inverse != nil || e != api.ErrDivide {
		t.Errorf("%v, %d", inverse, e)
	}
	if !bytes.Equal(row, []byte{1, 2}) || &m[0][0] != &row[0] || &m[1][0] != &row[0] {
		t.Errorf("the argument became %v", m)
	}
}
