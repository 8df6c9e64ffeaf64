package plane_test

import (
	"math"
	"slices"
	"testing"

	"tegula/api"
	"tegula/plane"
	"tegula/smallfield"
)

// constructor is one of the two functions that return a plane.
type constructor struct {
	name  string
	build func(q int) (api.Design, api.Errno)
}

func constructors() []constructor {
	return []constructor{{"Projective", plane.Projective}, {"Affine", plane.Affine}}
}

// orders returns the sizes whose planes are within the limit.
func orders() []int { return []int{2, 3, 4, 5, 7} }

// refusal is an argument q and the error that is due.
type refusal struct {
	q    int
	want api.Errno
}

// refusals returns arguments for which there is no plane.
func refusals() []refusal {
	list := []refusal{{8, api.ErrLimit}, {9, api.ErrLimit}}
	for _, q := range []int{math.MinInt, -7, -4, -2, -1, 0, 1, 6, 1 << 32, math.MaxInt} {
		list = append(list, refusal{q, api.ErrArg})
	}
	for q := 10; q < 200; q++ {
		list = append(list, refusal{q, api.ErrArg})
	}
	return list
}

// triple returns the normalized coordinates with a number: 0 0 1, then those that begin with 0 1, then those that begin with 1.
func triple(q, n int) [3]int {
	switch {
	case n == 0:
		return [3]int{0, 0, 1}
	case n <= q:
		return [3]int{0, 1, n - 1}
	}
	n -= q + 1
	return [3]int{1, n / q, n % q}
}

// lies reports whether a point lies on a line of the projective plane.
func lies(t *testing.T, q, point, line int) bool {
	f := field(t, q)
	p, l := triple(q, point), triple(q, line)
	return f.Add(f.Add(f.Mul(l[0], p[0]), f.Mul(l[1], p[1])), f.Mul(l[2], p[2])) == 0
}

// affineLies reports whether a point lies on a line of the affine plane.
func affineLies(t *testing.T, q, point, line int) bool {
	f := field(t, q)
	x, y := point/q, point%q
	if line >= q*q {
		return x == line-q*q
	}
	m, b := line/q, line%q
	return f.Add(f.Add(f.Mul(m, x), b), f.Neg(y)) == 0
}

// field returns a field that exists.
func field(t *testing.T, q int) *smallfield.Field {
	t.Helper()
	f, e := smallfield.New(q)
	if e != api.OK {
		t.Fatalf("there is no field of %d", q)
	}
	return f
}

// build returns a plane that exists.
func build(t *testing.T, c constructor, q int) api.Design {
	t.Helper()
	d, e := c.build(q)
	if e != api.OK {
		t.Fatalf("%s(%d): error %d", c.name, q, e)
	}
	return d
}

// compare compares a plane with the points that lie on its lines.
func compare(t *testing.T, c constructor, q, points, lines int, on func(t *testing.T, q, point, line int) bool) {
	t.Helper()
	d := build(t, c, q)
	if d.Disks != points || len(d.Groups) != lines {
		t.Fatalf("%s(%d): %d points, %d lines", c.name, q, d.Disks, len(d.Groups))
	}
	for n, got := range d.Groups {
		var want []int
		for p := range points {
			if on(t, q, p, n) {
				want = append(want, p)
			}
		}
		if !slices.Equal(got, want) {
			t.Errorf("%s(%d): line %d is %v, not %v", c.name, q, n, got, want)
		}
	}
}

// P6.1: the points on all lines of the projective planes.
func TestProjective(t *testing.T) {
	for _, q := range orders() {
		compare(t, constructors()[0], q, q*q+q+1, q*q+q+1, lies)
	}
}

// P6.1: the points on all lines of the affine planes.
func TestAffine(t *testing.T) {
	for _, q := range orders() {
		compare(t, constructors()[1], q, q*q, q*q+q, affineLies)
	}
}

// P6.1: the examples of the chapter, all lines of the planes of 2, and some of larger planes that were computed by hand.
func TestExamples(t *testing.T) {
	projective, affine := build(t, constructors()[0], 2), build(t, constructors()[1], 2)
	want := [][]int{{1, 3, 5}, {0, 3, 4}, {2, 3, 6}, {0, 1, 2}, {1, 4, 6}, {0, 5, 6}, {2, 4, 5}}
	if projective.Disks != 7 || !slices.EqualFunc(projective.Groups, want, slices.Equal) {
		t.Errorf("the projective plane of 2: %v", projective)
	}
	want = [][]int{{0, 2}, {1, 3}, {0, 3}, {1, 2}, {0, 1}, {2, 3}}
	if affine.Disks != 4 || !slices.EqualFunc(affine.Groups, want, slices.Equal) {
		t.Errorf("the affine plane of 2: %v", affine)
	}
	// In the field of 4, 2 times 2 is 3, 2 times 3 is 1, and 1 plus 2 is 3: y = 2 x + 1 holds for 0 1, 1 3, 2 2, 3 0.
	if line := build(t, constructors()[1], 4).Groups[4*2+1]; !slices.Equal(line, []int{1, 7, 10, 12}) {
		t.Errorf("y = 2 x + 1 over 4: %v", line)
	}
	// Line 0 1 2 over 3 has y + 2 z = 0, that is y = z: the points 0 1 1, 1 0 0, 1 1 1 and 1 2 2.
	if line := build(t, constructors()[0], 3).Groups[3]; !slices.Equal(line, []int{2, 4, 8, 12}) {
		t.Errorf("y = z over 3: %v", line)
	}
}

// P6.1, P1: there is no plane for a number that is not a size, and none with more than 60 points.
func TestNoPlane(t *testing.T) {
	for _, c := range constructors() {
		for _, r := range refusals() {
			d, e := c.build(r.q)
			if e != r.want || d.Disks != 0 || d.Groups != nil {
				t.Errorf("%s(%d): %v, error %d, not %d", c.name, r.q, d, e, r.want)
			}
		}
	}
}

// P6.1: results are new memory, and the lines of a plane share none.
func TestNewMemory(t *testing.T) {
	for _, c := range constructors() {
		for _, q := range orders() {
			want := build(t, c, q)
			changed := build(t, c, q)
			for n, line := range changed.Groups {
				clear(line[:cap(line)])
				if n+1 < len(want.Groups) && !slices.Equal(changed.Groups[n+1], want.Groups[n+1]) {
					t.Fatalf("%s(%d): line %d shares memory with line %d", c.name, q, n+1, n)
				}
			}
			clear(changed.Groups)
			if again := build(t, c, q); !slices.EqualFunc(again.Groups, want.Groups, slices.Equal) {
				t.Errorf("%s(%d): differs after a change of an earlier result", c.name, q)
			}
		}
	}
}

// only returns the one number for which a condition holds.
func only(t *testing.T, n int, holds func(i int) bool) int {
	t.Helper()
	found := -1
	for i := range n {
		if holds(i) {
			if found >= 0 {
				t.Fatalf("both %d and %d", found, i)
			}
			found = i
		}
	}
	return found
}

// P6.2: Meet and Join for all pairs, with the point, or the line, that is found by a search.
func TestMeetAndJoin(t *testing.T) {
	for _, q := range orders() {
		points := q*q + q + 1
		for a := range points {
			for b := range points {
				if a == b {
					continue
				}
				point := only(t, points, func(p int) bool { return lies(t, q, p, a) && lies(t, q, p, b) })
				if got, e := plane.Meet(q, a, b); got != point || e != api.OK {
					t.Fatalf("Meet(%d, %d, %d) = %d, error %d, not %d", q, a, b, got, e, point)
				}
				line := only(t, points, func(l int) bool { return lies(t, q, a, l) && lies(t, q, b, l) })
				if got, e := plane.Join(q, a, b); got != line || e != api.OK {
					t.Fatalf("Join(%d, %d, %d) = %d, error %d, not %d", q, a, b, got, e, line)
				}
			}
		}
	}
}

// P6.2: the example of the chapter.
func TestMeetExample(t *testing.T) {
	if p, e := plane.Meet(2, 0, 1); p != 3 || e != api.OK {
		t.Errorf("Meet(2, 0, 1) = %d, error %d", p, e)
	}
}

// P6.2, P1: numbers that are out of range, equal numbers, and the order of the errors.
func TestMeetAndJoinErrors(t *testing.T) {
	check := func(q, a, b int, want api.Errno) {
		t.Helper()
		if p, e := plane.Meet(q, a, b); p != 0 || e != want {
			t.Errorf("Meet(%d, %d, %d) = %d, error %d, not %d", q, a, b, p, e, want)
		}
		if l, e := plane.Join(q, a, b); l != 0 || e != want {
			t.Errorf("Join(%d, %d, %d) = %d, error %d, not %d", q, a, b, l, e, want)
		}
	}
	for _, q := range orders() {
		points := q*q + q + 1
		for a := range points {
			check(q, a, a, api.ErrNone)
		}
		for _, a := range []int{math.MinInt, -points, -1, points, points + 1, math.MaxInt} {
			check(q, a, a, api.ErrRange)
			for _, b := range []int{-1, 0, points - 1, points} {
				check(q, a, b, api.ErrRange)
				check(q, b, a, api.ErrRange)
			}
		}
	}
	for _, r := range refusals() {
		for _, pair := range [][2]int{{0, 1}, {1, 1}, {-1, 0}, {-1, -1}, {0, math.MaxInt}} {
			check(r.q, pair[0], pair[1], r.want)
		}
	}
}

// shared counts the members that two increasing lists have in common.
func shared(a, b []int) int {
	count := 0
	for _, m := range a {
		if _, found := slices.BinarySearch(b, m); found {
			count++
		}
	}
	return count
}

// dual returns, for each point of a plane, the lines on which it lies.
func dual(d api.Design) [][]int {
	lines := make([][]int, d.Disks)
	for n, line := range d.Groups {
		for _, p := range line {
			lines[p] = append(lines[p], n)
		}
	}
	return lines
}

// meetOnce checks that any two lists have exactly one member in common.
func meetOnce(t *testing.T, what string, q int, lists [][]int) {
	t.Helper()
	for i := range lists {
		for j := range i {
			if n := shared(lists[i], lists[j]); n != 1 {
				t.Errorf("%s(%d): %d and %d have %d in common", what, q, i, j, n)
			}
		}
	}
}

// sized checks the lengths of lists.
func sized(t *testing.T, what string, q int, lists [][]int, want int) {
	t.Helper()
	for i, list := range lists {
		if len(list) != want {
			t.Errorf("%s(%d): %d has %d members, not %d", what, q, i, len(list), want)
		}
	}
}

// P6.3: points and lines of the projective planes.
func TestProjectiveLaws(t *testing.T) {
	for _, q := range orders() {
		d := build(t, constructors()[0], q)
		points := dual(d)
		meetOnce(t, "lines of Projective", q, d.Groups)
		meetOnce(t, "points of Projective", q, points)
		sized(t, "lines of Projective", q, d.Groups, q+1)
		sized(t, "points of Projective", q, points, q+1)
	}
}

// P6.3: points and lines of the affine planes.
func TestAffineLaws(t *testing.T) {
	for _, q := range orders() {
		d := build(t, constructors()[1], q)
		points := dual(d)
		meetOnce(t, "points of Affine", q, points)
		sized(t, "lines of Affine", q, d.Groups, q)
		sized(t, "points of Affine", q, points, q+1)
	}
}

// P6.3: for each point that is not on a line, exactly one line with this point is parallel to it.
func TestParallels(t *testing.T) {
	for _, q := range orders() {
		d := build(t, constructors()[1], q)
		points := dual(d)
		for n, line := range d.Groups {
			for p, through := range points {
				if slices.Contains(line, p) {
					continue
				}
				parallel := 0
				for _, other := range through {
					if shared(line, d.Groups[other]) == 0 {
						parallel++
					}
				}
				if parallel != 1 {
					t.Errorf("Affine(%d): line %d has %d parallels with point %d", q, n, parallel, p)
				}
			}
		}
	}
}
