package parity_test

import (
	"math"
	"math/rand/v2"
	"slices"
	"testing"

	"tegula/api"
	"tegula/fieldtest"
	"tegula/parity"
)

// bytesOf returns a function that yields arbitrary bytes.
func bytesOf(r *rand.Rand) func() byte {
	return func() byte { return byte(r.Uint32()) }
}

// someBlocks returns n blocks of arbitrary bytes.
func someBlocks(r *rand.Rand, n int) []api.Block { return fieldtest.Blocks(n, bytesOf(r)) }

// someGroup returns a consistent group of a width.
func someGroup(r *rand.Rand, width int) []api.Block { return fieldtest.Group(width, bytesOf(r)) }

// numbers returns arbitrary numbers that are always the same.
func numbers() *rand.Rand { return rand.New(rand.NewPCG(3, 3)) }

// P3.1: the coefficients of every number of data pieces.
func TestMatrix(t *testing.T) {
	for data := 1; data <= 13; data++ {
		rows, e := parity.Matrix(data)
		if e != api.OK || len(rows) != 3 {
			t.Fatalf("Matrix(%d) = %v, %d", data, rows, e)
		}
		for j, row := range rows {
			if len(row) != data {
				t.Fatalf("Matrix(%d): row %d has %d elements", data, j, len(row))
			}
			for i, c := range row {
				if want := fieldtest.Coefficient(j, i); c != want {
					t.Errorf("Matrix(%d): row %d, column %d: %d, not %d", data, j, i, c, want)
				}
			}
		}
	}
	rows, _ := parity.Matrix(2)
	for j, want := range [][]byte{{1, 1}, {1, 2}, {1, 4}} {
		if !slices.Equal(rows[j], want) {
			t.Errorf("Matrix(2): row %d is %v", j, rows[j])
		}
	}
}

// P3.1: numbers of data pieces that no group has; P1: the result is zero with an error.
func TestMatrixErrors(t *testing.T) {
	for _, data := range []int{math.MinInt, -1, 0, 14, 16, math.MaxInt} {
		if rows, e := parity.Matrix(data); rows != nil || e != api.ErrArg {
			t.Errorf("Matrix(%d) = %v, %d", data, rows, e)
		}
	}
}

// P1: a matrix is new memory, and its rows share none.
func TestMatrixIsNew(t *testing.T) {
	rows, _ := parity.Matrix(13)
	for _, row := range rows {
		for i := range cap(row) {
			row[:cap(row)][i] = 0xAA
		}
	}
	for j, row := range rows {
		rows[j] = append(row, byte(j))
	}
	for j, row := range rows {
		if len(row) != 14 || row[0] != 0xAA || row[13] != byte(j) {
			t.Errorf("row %d changed with another one: %v", j, row)
		}
	}
	again, _ := parity.Matrix(13)
	for j, row := range again {
		if row[12] != fieldtest.Coefficient(j, 12) {
			t.Errorf("row %d of a later matrix changed with an earlier one: %v", j, row)
		}
	}
}

// P3.2: the parity of every number of data pieces.
func TestEncode(t *testing.T) {
	r := numbers()
	for n := 1; n <= 13; n++ {
		for range 20 {
			data := someBlocks(r, n)
			before := slices.Clone(data)
			p, e := parity.Encode(data)
			if want := fieldtest.Parity(data); e != api.OK || !slices.Equal(p, want) {
				t.Fatalf("Encode(%v) = %v, %d, not %v", data, p, e, want)
			}
			if !slices.Equal(data, before) {
				t.Fatalf("Encode changed its argument %v to %v", before, data)
			}
		}
	}
	p, e := parity.Encode([]api.Block{{3}, {5}})
	if e != api.OK || !slices.Equal(p, []api.Block{{6}, {9}, {23}}) {
		t.Errorf("the example: %v, %d", p, e)
	}
}

// P3.2: a single byte of a single piece meets its coefficients, at every place.
func TestEncodeUnits(t *testing.T) {
	for i := range 13 {
		for k := range 8 {
			data := make([]api.Block, 13)
			data[i][k] = 1
			p, e := parity.Encode(data)
			want := make([]api.Block, 3)
			for j := range want {
				want[j][k] = fieldtest.Coefficient(j, i)
			}
			if e != api.OK || !slices.Equal(p, want) {
				t.Errorf("byte %d of piece %d: %v, %d", k, i, p, e)
			}
		}
	}
}

// P3.2: numbers of data pieces that no group has; P1: the result is zero with an error.
func TestEncodeErrors(t *testing.T) {
	for _, n := range []int{0, 14, 15, 16, 17, 100} {
		if p, e := parity.Encode(make([]api.Block, n)); p != nil || e != api.ErrArg {
			t.Errorf("Encode of %d pieces = %v, %d", n, p, e)
		}
	}
	if p, e := parity.Encode(nil); p != nil || e != api.ErrArg {
		t.Errorf("Encode(nil) = %v, %d", p, e)
	}
}

// P3.3: after a change, the parity is that of the new data pieces.
func TestUpdate(t *testing.T) {
	r := numbers()
	for n := 1; n <= 13; n++ {
		for index := range n {
			data := someBlocks(r, n)
			changed := slices.Clone(data)
			changed[index] = someBlocks(r, 1)[0]
			before := fieldtest.Parity(data)
			given := slices.Clone(before)
			p, e := parity.Update(given, index, data[index], changed[index])
			if want := fieldtest.Parity(changed); e != api.OK || !slices.Equal(p, want) {
				t.Fatalf("Update of piece %d of %d = %v, %d, not %v", index, n, p, e, want)
			}
			if !slices.Equal(given, before) {
				t.Fatalf("Update changed its argument %v to %v", before, given)
			}
		}
	}
}

// P3.3: contents that do not change leave the parity, also one that belongs to no data pieces; the result is new memory.
func TestUpdateWithoutChange(t *testing.T) {
	r := numbers()
	for index := range 13 {
		given := someBlocks(r, 3)
		piece := someBlocks(r, 1)[0]
		p, e := parity.Update(given, index, piece, piece)
		if e != api.OK || !slices.Equal(p, given) {
			t.Fatalf("Update of piece %d = %v, %d, not %v", index, p, e, given)
		}
		first := given[0]
		p[0][0]++
		if given[0] != first {
			t.Fatal("the result of Update shares memory with its argument")
		}
	}
}

// P3.3: invalid arguments; P1: the result is zero with an error.
func TestUpdateErrors(t *testing.T) {
	for _, n := range []int{0, 1, 2, 4, 5, 16} {
		for _, index := range []int{-1, 0, 5, 12, 13} {
			if p, e := parity.Update(make([]api.Block, n), index, api.Block{1}, api.Block{2}); p != nil || e != api.ErrArg {
				t.Errorf("Update of %d parity blocks = %v, %d", n, p, e)
			}
		}
	}
	for _, index := range []int{math.MinInt, -1, 13, 14, 256, math.MaxInt} {
		if p, e := parity.Update(make([]api.Block, 3), index, api.Block{1}, api.Block{2}); p != nil || e != api.ErrArg {
			t.Errorf("Update of piece %d = %v, %d", index, p, e)
		}
	}
	if p, e := parity.Update(nil, 0, api.Block{}, api.Block{}); p != nil || e != api.ErrArg {
		t.Errorf("Update(nil) = %v, %d", p, e)
	}
}

// P3.4: consistent groups of every width, and lists of any other length.
func TestCheck(t *testing.T) {
	r := numbers()
	for width := 4; width <= 16; width++ {
		group := someGroup(r, width)
		before := slices.Clone(group)
		if !parity.Check(group) {
			t.Errorf("width %d: %v is consistent", width, group)
		}
		if !slices.Equal(group, before) {
			t.Errorf("Check changed its argument %v to %v", before, group)
		}
		if !parity.Check(make([]api.Block, width)) {
			t.Errorf("width %d: a group of zeros is consistent", width)
		}
	}
	for _, length := range []int{0, 1, 2, 3, 17, 18, 19, 32} {
		if parity.Check(make([]api.Block, length)) {
			t.Errorf("a list of %d pieces is no group", length)
		}
	}
	data := someBlocks(r, 14)
	if parity.Check(nil) || parity.Check(slices.Concat(data, fieldtest.Parity(data))) {
		t.Error("no list, or a list of 17 pieces with its parity, is no group")
	}
}

// P3.4: the parity pieces are the last ones, in their order.
func TestCheckOrder(t *testing.T) {
	r := numbers()
	group := someGroup(r, 9)
	for i := range group {
		for k := range i {
			other := slices.Clone(group)
			other[i], other[k] = group[k], group[i]
			if parity.Check(other) {
				t.Errorf("pieces %d and %d are exchanged", k, i)
			}
		}
	}
}

// column returns the change of the three sums that must be 0 in a consistent group, if piece i changes by 1.
func column(rows [][]byte, i int) [3]byte {
	if data := len(rows[0]); i >= data {
		var unit [3]byte
		unit[i-data] = 1
		return unit
	}
	return [3]byte{rows[0][i], rows[1][i], rows[2][i]}
}

// determinant is that of three columns; all signs are plus in this field.
func determinant(x, y, z [3]byte) byte {
	return fieldtest.Times(x[0], fieldtest.Times(y[1], z[2])^fieldtest.Times(y[2], z[1])) ^
		fieldtest.Times(x[1], fieldtest.Times(y[0], z[2])^fieldtest.Times(y[2], z[0])) ^
		fieldtest.Times(x[2], fieldtest.Times(y[0], z[1])^fieldtest.Times(y[1], z[0]))
}

// P3.5: any three pieces change the sums independently, so no change of at most three pieces leaves a group consistent.
func TestDistanceOfMatrix(t *testing.T) {
	for width := 4; width <= 16; width++ {
		rows, e := parity.Matrix(width - 3)
		if e != api.OK {
			t.Fatal(e)
		}
		fieldtest.Triples(width, func(a, b, c int) {
			if determinant(column(rows, a), column(rows, b), column(rows, c)) == 0 {
				t.Errorf("width %d: pieces %d, %d and %d depend on each other", width, a, b, c)
			}
		})
	}
}

// P3.5: a change of one, two or three pieces is noticed.
func TestDistanceOfGroups(t *testing.T) {
	r := numbers()
	for width := 4; width <= 16; width++ {
		group := someGroup(r, width)
		fieldtest.Triples(width, func(a, b, c int) {
			other := slices.Clone(group)
			k := r.IntN(8)
			for _, i := range []int{a, b, c} {
				other[i][k] ^= byte(1 + r.IntN(255))
				if parity.Check(other) {
					t.Errorf("width %d: a change of pieces %d, %d, %d up to %d was not noticed", width, a, b, c, i)
				}
			}
		})
	}
}

// P3.5: the encodings of data that differ in one, two or three pieces differ in at least four.
func TestDistanceOfEncodings(t *testing.T) {
	r := numbers()
	for n := 1; n <= 13; n++ {
		for changes := 1; changes <= min(n, 3); changes++ {
			data := someBlocks(r, n)
			other := slices.Clone(data)
			for _, i := range r.Perm(n)[:changes] {
				other[i][r.IntN(8)]++
			}
			p, _ := parity.Encode(data)
			q, _ := parity.Encode(other)
			differences := changes
			for j := range p {
				if p[j] != q[j] {
					differences++
				}
			}
			if differences < 4 {
				t.Errorf("%v and %v differ in %d pieces", data, other, differences)
			}
		}
	}
}

// P3.6: the parity of sums and of multiples.
func TestLinearity(t *testing.T) {
	r := numbers()
	for n := 1; n <= 13; n++ {
		a, b := someBlocks(r, n), someBlocks(r, n)
		p, _ := parity.Encode(a)
		q, _ := parity.Encode(b)
		if s, e := parity.Encode(fieldtest.Sum(a, b)); e != api.OK || !slices.Equal(s, fieldtest.Sum(p, q)) {
			t.Errorf("%d pieces: the parity of a sum is %v, %d", n, s, e)
		}
		for c := range 256 {
			if m, e := parity.Encode(fieldtest.Multiple(a, byte(c))); e != api.OK || !slices.Equal(m, fieldtest.Multiple(p, byte(c))) {
				t.Errorf("%d pieces: the parity of %d times them is %v, %d", n, c, m, e)
			}
		}
	}
}
