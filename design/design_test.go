package design_test

import (
	"math"
	"math/bits"
	"slices"
	"testing"

	"tegula/api"
	"tegula/design"
	"tegula/plane"
)

// same reports whether two designs are equal.
func same(a, b api.Design) bool {
	return a.Disks == b.Disks && slices.EqualFunc(a.Groups, b.Groups, slices.Equal)
}

// copied returns a copy of a design that shares no memory with it.
func copied(d api.Design) api.Design {
	groups := make([][]int, len(d.Groups))
	for i, g := range d.Groups {
		groups[i] = slices.Clone(g)
	}
	return api.Design{Disks: d.Disks, Groups: groups}
}

// complete returns a complete design that exists.
func complete(t *testing.T, disks, width int) api.Design {
	t.Helper()
	d, e := design.Complete(disks, width)
	if e != api.OK {
		t.Fatalf("Complete(%d, %d): error %d", disks, width, e)
	}
	return d
}

// choices returns the numbers of sets of k of n disks, for n and k up to 60, as the rows of Pascal's triangle.
func choices() [][]int {
	rows := [][]int{{1}}
	for n := 1; n <= api.MaxDisks; n++ {
		row := make([]int, n+1)
		for k := range row {
			if k > 0 {
				row[k] += rows[n-1][k-1]
			}
			if k < n {
				row[k] += rows[n-1][k]
			}
		}
		rows = append(rows, row)
	}
	return rows
}

// each calls a function for all complete designs within the limits.
func each(visit func(disks, width, groups int)) {
	rows := choices()
	for disks := 2; disks <= api.MaxDisks; disks++ {
		for width := 2; width <= disks; width++ {
			if rows[disks][width] <= api.MaxGroups {
				visit(disks, width, rows[disks][width])
			}
		}
	}
}

// P7.1: the examples, and all sets of few disks, found as the bits of numbers.
func TestComplete(t *testing.T) {
	want := [][]int{{0, 1}, {0, 2}, {0, 3}, {1, 2}, {1, 3}, {2, 3}}
	if d := complete(t, 4, 2); !same(d, api.Design{Disks: 4, Groups: want}) {
		t.Errorf("Complete(4, 2): %v", d)
	}
	for disks := 2; disks <= 12; disks++ {
		for width := 2; width <= disks; width++ {
			var groups [][]int
			for set := range uint(1) << disks {
				if bits.OnesCount(set) == width {
					groups = append(groups, members(set))
				}
			}
			slices.SortFunc(groups, slices.Compare)
			if d := complete(t, disks, width); !same(d, api.Design{Disks: disks, Groups: groups}) {
				t.Errorf("Complete(%d, %d): %v", disks, width, d)
			}
		}
	}
}

// members returns the positions of the bits of a number.
func members(set uint) []int {
	var list []int
	for i := range bits.Len(set) {
		if set>>i&1 == 1 {
			list = append(list, i)
		}
	}
	return list
}

// P7.1: as many different sets as there are, in lexicographic order, for all sizes within the limits.
func TestCompleteSizes(t *testing.T) {
	each(func(disks, width, groups int) {
		d := complete(t, disks, width)
		if d.Disks != disks || len(d.Groups) != groups {
			t.Fatalf("Complete(%d, %d): %d disks, %d groups", disks, width, d.Disks, len(d.Groups))
		}
		for i, g := range d.Groups {
			if len(g) != width || !strict(g) || g[0] < 0 || g[width-1] >= disks {
				t.Fatalf("Complete(%d, %d): group %d is %v", disks, width, i, g)
			}
			if i > 0 && slices.Compare(d.Groups[i-1], g) >= 0 {
				t.Fatalf("Complete(%d, %d): %v before %v", disks, width, d.Groups[i-1], g)
			}
		}
	})
}

// strict reports whether a list increases strictly.
func strict(list []int) bool {
	for i := 1; i < len(list); i++ {
		if list[i] <= list[i-1] {
			return false
		}
	}
	return true
}

// P7.1, P1: all arguments near the limits, and extreme ones.
func TestCompleteErrors(t *testing.T) {
	rows := choices()
	check := func(disks, width int, want api.Errno) {
		t.Helper()
		d, e := design.Complete(disks, width)
		if e != want || e != api.OK && (d.Disks != 0 || d.Groups != nil) {
			t.Errorf("Complete(%d, %d): %d disks, %d groups, error %d, not %d", disks, width, d.Disks, len(d.Groups), e, want)
		}
	}
	for disks := -2; disks <= 64; disks++ {
		for width := -2; width <= 66; width++ {
			switch {
			case disks < 2 || disks > 60 || width < 2 || width > disks:
				check(disks, width, api.ErrArg)
			case rows[disks][width] > 4096:
				check(disks, width, api.ErrLimit)
			default:
				check(disks, width, api.OK)
			}
		}
	}
	for _, n := range []int{math.MinInt, math.MinInt + 1, math.MaxInt - 1, math.MaxInt} {
		check(n, n, api.ErrArg)
		for _, other := range []int{2, 5, 60} {
			check(n, other, api.ErrArg)
			check(other, n, api.ErrArg)
		}
	}
}

// P7.1, P7.3: results are new memory, and the groups of a design share none.
func TestNewMemory(t *testing.T) {
	for _, c := range []struct {
		name         string
		build        func(disks, width int) (api.Design, api.Errno)
		disks, width int
	}{
		{"Complete", design.Complete, 6, 3},
		{"Choose", design.Choose, 6, 4},
		{"Choose", design.Choose, 13, 4},
		{"Choose", design.Choose, 16, 4},
	} {
		want, _ := c.build(c.disks, c.width)
		changed, _ := c.build(c.disks, c.width)
		for i, g := range changed.Groups {
			clear(g[:cap(g)])
			if i+1 < len(want.Groups) && !slices.Equal(changed.Groups[i+1], want.Groups[i+1]) {
				t.Fatalf("%s(%d, %d): group %d shares memory with group %d", c.name, c.disks, c.width, i+1, i)
			}
		}
		clear(changed.Groups)
		if again, _ := c.build(c.disks, c.width); !same(again, want) {
			t.Errorf("%s(%d, %d): differs after a change of an earlier result", c.name, c.disks, c.width)
		}
	}
}

// together counts the groups in which all of the given disks lie.
func together(d api.Design, disks ...int) int {
	count := 0
	for _, g := range d.Groups {
		missing := func(n int) bool { return !slices.Contains(g, n) }
		if !slices.ContainsFunc(disks, missing) {
			count++
		}
	}
	return count
}

// balance returns r and lambda by the definition, and false if the design is not balanced. It is slow for large designs.
func balance(d api.Design) (r, lambda int, balanced bool) {
	if d.Disks < 2 || d.Disks > 60 || len(d.Groups) < 1 || len(d.Groups) > 4096 || len(d.Groups[0]) < 2 {
		return 0, 0, false
	}
	for _, g := range d.Groups {
		foreign := func(n int) bool { return n < 0 || n >= d.Disks }
		if len(g) != len(d.Groups[0]) || !strict(g) || slices.ContainsFunc(g, foreign) {
			return 0, 0, false
		}
	}
	r, lambda = together(d, 0), together(d, 0, 1)
	for a := range d.Disks {
		for b := range a {
			if together(d, a) != r || together(d, a, b) != lambda {
				return 0, 0, false
			}
		}
	}
	return r, lambda, lambda >= 1
}

// checked compares the result of Check with what is expected, which is ErrForm if r is 0, and compares the design with what it was before.
func checked(t *testing.T, d api.Design, r, lambda int) {
	t.Helper()
	want := api.OK
	if r == 0 {
		want = api.ErrForm
	}
	before := copied(d)
	if gotR, gotLambda, e := design.Check(d); gotR != r || gotLambda != lambda || e != want {
		t.Fatalf("Check(%v) = %d, %d, error %d, not %d, %d, error %d", d, gotR, gotLambda, e, r, lambda, want)
	}
	if !same(d, before) {
		t.Fatalf("Check changed %v to %v", before, d)
	}
}

// repeated returns a design of two disks whose only set of disks is repeated.
func repeated(groups int) api.Design {
	d := api.Design{Disks: 2}
	for range groups {
		d.Groups = append(d.Groups, []int{0, 1})
	}
	return d
}

// twos returns all sets of two disks.
func twos(disks int) [][]int {
	var groups [][]int
	for b := range disks {
		for a := range b {
			groups = append(groups, []int{a, b})
		}
	}
	return groups
}

// P7.2: balanced designs: planes, complete ones in any order, with repeated groups and other disks, and the limits.
func TestCheck(t *testing.T) {
	checked(t, complete(t, 4, 2), 3, 1)
	checked(t, complete(t, 2, 2), 1, 1)
	checked(t, complete(t, 60, 60), 1, 1)
	checked(t, complete(t, 60, 59), 59, 58)
	checked(t, complete(t, 60, 2), 59, 1)
	checked(t, api.Design{Disks: 60, Groups: twos(60)}, 59, 1)
	checked(t, repeated(1), 1, 1)
	checked(t, repeated(2), 2, 2)
	checked(t, repeated(4096), 4096, 4096)
	for _, q := range []int{2, 3, 4, 5, 7} {
		projective, _ := plane.Projective(q)
		checked(t, projective, q+1, 1)
		affine, _ := plane.Affine(q)
		checked(t, affine, q+1, 1)
		slices.Reverse(affine.Groups)
		checked(t, affine, q+1, 1)
		affine.Groups = append(affine.Groups, affine.Groups...)
		checked(t, affine, 2*q+2, 2)
	}
	// A biplane, which is neither a plane nor complete: the squares modulo 11 and their shifts.
	d := api.Design{Disks: 11}
	for shift := range 11 {
		var group []int
		for _, n := range []int{1, 3, 4, 5, 9} {
			group = append(group, (n+shift)%11)
		}
		slices.Sort(group)
		d.Groups = append(d.Groups, group)
	}
	checked(t, d, 5, 2)
}

// P7.2, P1: designs that are not balanced, each for one reason.
func TestCheckForm(t *testing.T) {
	for _, d := range []api.Design{
		{},
		{Disks: 2},
		{Disks: 5, Groups: [][]int{}},
		{Disks: 2, Groups: [][]int{nil}},
		{Disks: 2, Groups: [][]int{{0}, {1}}},
		{Disks: 1, Groups: [][]int{{0}}},
		{Disks: 1, Groups: [][]int{{0, 0}}},
		{Disks: 0, Groups: [][]int{{0, 1}}},
		{Disks: -1, Groups: [][]int{{0, 1}}},
		{Disks: math.MinInt, Groups: [][]int{{0, 1}}},
		{Disks: 61, Groups: twos(61)},
		{Disks: math.MaxInt, Groups: [][]int{{0, 1}}},
		repeated(4097),
		{Disks: 3, Groups: [][]int{{0, 1, 2}, {0, 1}, {0, 2}, {1, 2}}},
		{Disks: 3, Groups: [][]int{{0, 1}, {0, 2}, {1, 2}, {0, 1, 2}}},
		{Disks: 3, Groups: [][]int{{0, 1, 2}, {}}},
		{Disks: 3, Groups: [][]int{{0, 1}, {0, 2}, {2, 1}}},
		{Disks: 2, Groups: [][]int{{0, 1, 1}}},
		{Disks: 2, Groups: [][]int{{0, 0}, {0, 1}, {1, 1}}},
		{Disks: 2, Groups: [][]int{{-1, 0, 1}}},
		{Disks: 2, Groups: [][]int{{0, 1, 2}}},
		{Disks: 2, Groups: [][]int{{0, 1, math.MaxInt}}},
		{Disks: 2, Groups: [][]int{{math.MinInt, 0, 1}}},
		{Disks: 60, Groups: [][]int{slices.Repeat([]int{0}, 100000)}},
		{Disks: 3, Groups: [][]int{{0, 1}}},
		{Disks: 3, Groups: [][]int{{0, 1}, {1, 2}}},
		{Disks: 4, Groups: [][]int{{0, 1}, {2, 3}}},
		{Disks: 4, Groups: [][]int{{0, 1}, {1, 2}, {2, 3}, {0, 3}}},
		{Disks: 4, Groups: append(twos(4), []int{0, 1}, []int{2, 3})},
		{Disks: 60, Groups: twos(60)[1:]},
		{Disks: 60, Groups: twos(59)},
	} {
		checked(t, d, 0, 0)
	}
}

// P7.2: all lists of up to four sets of four disks, and of up to three short lists of numbers that are disks or just none, with the definition.
func TestCheckAll(t *testing.T) {
	var subsets [][]int
	for set := range uint(16) {
		subsets = append(subsets, members(set))
	}
	compareAll(t, 4, subsets, 4)
	lists := [][]int{{}}
	for a := -1; a <= 3; a++ {
		lists = append(lists, []int{a})
		for b := -1; b <= 3; b++ {
			lists = append(lists, []int{a, b})
		}
	}
	compareAll(t, 3, lists, 3)
	compareAll(t, 2, lists, 3)
}

// compareAll compares Check with the definition for all designs with up to the given number of groups of a list.
func compareAll(t *testing.T, disks int, groups [][]int, most int) {
	t.Helper()
	var extend func(d api.Design)
	extend = func(d api.Design) {
		r, lambda, balanced := balance(d)
		if !balanced {
			r, lambda = 0, 0
		}
		checked(t, d, r, lambda)
		if len(d.Groups) == most {
			return
		}
		for _, g := range groups {
			extend(api.Design{Disks: disks, Groups: append(slices.Clone(d.Groups), g)})
		}
	}
	extend(api.Design{Disks: disks})
}

// P7.2: a balanced design loses its balance with any one of its numbers or groups, unless it is a group of all disks.
func TestCheckChanged(t *testing.T) {
	fano, _ := plane.Projective(2)
	for _, d := range []api.Design{fano, complete(t, 5, 3), complete(t, 6, 4)} {
		for i, g := range d.Groups {
			less := copied(d)
			less.Groups = slices.Delete(less.Groups, i, i+1)
			checked(t, less, 0, 0)
			more := copied(d)
			more.Groups = append(more.Groups, g)
			checked(t, more, 0, 0)
			for j := range g {
				for n := -1; n <= d.Disks; n++ {
					changed := copied(d)
					changed.Groups[i][j] = n
					if n != g[j] {
						checked(t, changed, 0, 0)
					}
				}
			}
		}
	}
}

// expected returns the design and the error of Choose by the definition: planes are found by their formulas.
func expected(disks, width int) (api.Design, api.Errno) {
	if width < 4 || width > 16 || disks < width || disks > 60 {
		return api.Design{}, api.ErrArg
	}
	for _, q := range []int{2, 3, 4, 5, 7, 8, 9} {
		if disks == q*q+q+1 && width == q+1 {
			return plane.Projective(q)
		}
	}
	for _, q := range []int{2, 3, 4, 5, 7, 8, 9} {
		if disks == q*q && width == q {
			return plane.Affine(q)
		}
	}
	return design.Complete(disks, width)
}

// P7.3, P1: all arguments near the limits, and extreme ones.
func TestChoose(t *testing.T) {
	check := func(disks, width int) {
		t.Helper()
		want, e := expected(disks, width)
		if got, f := design.Choose(disks, width); f != e || !same(got, want) {
			t.Errorf("Choose(%d, %d): %d groups, error %d, not %d groups, error %d", disks, width, len(got.Groups), f, len(want.Groups), e)
		}
	}
	for disks := -2; disks <= 82; disks++ {
		for width := -2; width <= 20; width++ {
			check(disks, width)
		}
	}
	for _, n := range []int{math.MinInt, -1 << 32, 1 << 32, math.MaxInt} {
		check(n, n)
		check(n, 4)
		check(13, n)
	}
}

// P7.3: the examples, the planes, the limits of the arguments, and sizes just beside them.
func TestChooseExamples(t *testing.T) {
	for _, c := range []struct{ disks, width, groups, r, lambda int }{
		{4, 4, 1, 1, 1}, {5, 4, 5, 4, 3}, {16, 16, 1, 1, 1}, {17, 16, 17, 16, 15},
		{13, 4, 13, 4, 1}, {21, 5, 21, 5, 1}, {31, 6, 31, 6, 1}, {57, 8, 57, 8, 1},
		{16, 4, 20, 5, 1}, {25, 5, 30, 6, 1}, {49, 7, 56, 8, 1},
		{12, 4, 495, 165, 45}, {14, 4, 1001, 286, 66}, {13, 5, 1287, 495, 165}, {14, 5, 2002, 715, 220},
	} {
		d, e := design.Choose(c.disks, c.width)
		if e != api.OK || d.Disks != c.disks || len(d.Groups) != c.groups {
			t.Errorf("Choose(%d, %d): %d disks, %d groups, error %d", c.disks, c.width, d.Disks, len(d.Groups), e)
		}
		checked(t, d, c.r, c.lambda)
	}
	for _, c := range []struct {
		disks, width int
		want         api.Errno
	}{
		{40, 8, api.ErrLimit}, {31, 5, api.ErrLimit}, {57, 7, api.ErrLimit}, {60, 16, api.ErrLimit},
		{7, 3, api.ErrArg}, {9, 3, api.ErrArg}, {3, 4, api.ErrArg}, {17, 17, api.ErrArg}, {61, 4, api.ErrArg}, {64, 8, api.ErrArg}, {73, 9, api.ErrArg},
	} {
		if d, e := design.Choose(c.disks, c.width); e != c.want || d.Disks != 0 || d.Groups != nil {
			t.Errorf("Choose(%d, %d): %d disks, %d groups, error %d, not %d", c.disks, c.width, d.Disks, len(d.Groups), e, c.want)
		}
	}
}

// sharedBy compares the result of Shared with what is expected.
func sharedBy(t *testing.T, d api.Design, a, b, want int) {
	t.Helper()
	if got := design.Shared(d, a, b); got != want {
		t.Errorf("Shared(%v, %d, %d) = %d, not %d", d, a, b, got, want)
	}
}

// P7.4: all pairs of disks of balanced designs.
func TestShared(t *testing.T) {
	fano, _ := plane.Projective(2)
	for _, d := range []api.Design{fano, complete(t, 4, 2), complete(t, 6, 3), complete(t, 7, 5), repeated(3)} {
		r, lambda, _ := balance(d)
		before := copied(d)
		for a := range d.Disks {
			for b := range d.Disks {
				if a == b {
					sharedBy(t, d, a, b, r)
				} else {
					sharedBy(t, d, a, b, lambda)
				}
			}
		}
		if !same(d, before) {
			t.Errorf("Shared changed %v to %v", before, d)
		}
	}
}

// P7.4: designs that are not balanced, in which every group counts once.
func TestSharedUnbalanced(t *testing.T) {
	d := api.Design{Disks: 5, Groups: [][]int{{0, 1, 2}, {2, 0}, nil, {3}, {0, 0, 2, 2}, {1, 7, -1}, {2, 0, 1}}}
	for a := range d.Disks {
		for b := range d.Disks {
			sharedBy(t, d, a, b, together(d, a, b))
		}
	}
	sharedBy(t, d, 0, 2, 4)
	sharedBy(t, d, 2, 0, 4)
	sharedBy(t, d, 0, 0, 4)
	sharedBy(t, d, 3, 3, 1)
	sharedBy(t, d, 4, 4, 0)
	sharedBy(t, repeated(5000), 1, 0, 5000)
	sharedBy(t, api.Design{Disks: 100, Groups: [][]int{{70, 80}}}, 80, 70, 1)
}

// P7.4, P1: disks and groups that do not exist, also if their numbers lie in groups.
func TestSharedNone(t *testing.T) {
	d := api.Design{Disks: 3, Groups: [][]int{{math.MinInt, -1, 0, 1, 2, 3, 4, math.MaxInt}}}
	for _, n := range []int{math.MinInt, -1, 3, 4, math.MaxInt} {
		sharedBy(t, d, n, n, 0)
		for disk := range d.Disks {
			sharedBy(t, d, n, disk, 0)
			sharedBy(t, d, disk, n, 0)
		}
	}
	sharedBy(t, d, 0, 2, 1)
	for _, empty := range []api.Design{{}, {Disks: 2}, {Disks: 2, Groups: [][]int{{}, nil}}, {Disks: -2, Groups: [][]int{{0, 1}}}, {Disks: 0, Groups: [][]int{{0, 1}}}} {
		for a := -2; a <= 2; a++ {
			for b := -2; b <= 2; b++ {
				sharedBy(t, empty, a, b, 0)
			}
		}
	}
}

// laws checks that a design is balanced, and the equations of balanced designs.
func laws(t *testing.T, d api.Design) {
	t.Helper()
	r, lambda, e := design.Check(d)
	if e != api.OK {
		t.Fatalf("a design of %d disks and %d groups is not balanced", d.Disks, len(d.Groups))
	}
	v, b, k := d.Disks, len(d.Groups), len(d.Groups[0])
	if b*k != v*r || r*(k-1) != lambda*(v-1) || k < v && b < v {
		t.Errorf("v = %d, b = %d, k = %d, r = %d, lambda = %d", v, b, k, r, lambda)
	}
}

// P7.5: all designs that Complete returns.
func TestCompleteBalance(t *testing.T) {
	each(func(disks, width, _ int) { laws(t, complete(t, disks, width)) })
}

// P7.5: all designs that Choose returns, those with few groups also by the definition.
func TestChooseBalance(t *testing.T) {
	for disks := 4; disks <= 60; disks++ {
		for width := 4; width <= min(disks, 16); width++ {
			d, e := design.Choose(disks, width)
			if e != api.OK {
				continue
			}
			laws(t, d)
			if len(d.Groups) > 100 {
				continue
			}
			if _, _, balanced := balance(d); !balanced {
				t.Errorf("Choose(%d, %d) is not balanced", disks, width)
			}
		}
	}
}
