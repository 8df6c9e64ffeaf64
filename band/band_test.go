package band_test

import (
	"cmp"
	"math"
	"slices"
	"testing"

	"tegula/api"
	"tegula/band"
	"tegula/disktest"
)

// valid decides by the definition whether a list is valid.
func valid(l []api.BandInfo, size int) bool {
	broken := func(b api.BandInfo) bool { return !(0 <= b.Live && b.Live <= b.Used && b.Used <= size) }
	return len(l) >= 1 && len(l) <= 64 && size >= 1 && !slices.ContainsFunc(l, broken)
}

// open sorts the partial bands of a list and returns the number of the one that takes appends.
func open(l []api.BandInfo, size int) int {
	var partial []int
	for i, b := range l {
		if b.Used != 0 && b.Used != size {
			partial = append(partial, i)
		}
	}
	if !valid(l, size) || len(partial) == 0 {
		return -1
	}
	slices.SortFunc(partial, func(a, b int) int { return cmp.Or(cmp.Compare(l[b].Age, l[a].Age), cmp.Compare(a, b)) })
	return partial[0]
}

// live returns the sum of Live.
func live(l []api.BandInfo) int {
	sum := 0
	for _, b := range l {
		sum += b.Live
	}
	return sum
}

// example returns the list of the chapter.
func example() []api.BandInfo {
	return []api.BandInfo{{Used: 4, Live: 2, Age: 5, Wear: 1}, {Used: 2, Live: 1, Age: 3}, {Wear: 7}, {Used: 1, Live: 1, Age: 9}}
}

// list returns a random valid list; many of its bands are free or full, or have the same age.
func list(data *disktest.Numbers, length, size int) []api.BandInfo {
	l := make([]api.BandInfo, length)
	for i := range l {
		used := []int{0, size, data.Between(0, size), data.Between(0, size)}[data.Between(0, 3)]
		l[i] = api.BandInfo{Used: used, Live: data.Between(0, used), Age: data.Next() >> data.Between(0, 63), Wear: data.Next() >> data.Between(0, 63)}
		if i > 0 && data.Between(0, 2) == 0 {
			l[i].Age = l[data.Between(0, i-1)].Age
		}
	}
	return l
}

// extremes returns a list of any length whose numbers are near bounds; few such lists are valid.
func extremes(data *disktest.Numbers) []api.BandInfo {
	ints := []int{math.MinInt, math.MinInt + 1, -2, -1, 0, 1, 2, 3, 4, 5, math.MaxInt - 1, math.MaxInt}
	words := []uint64{0, 1, 2, 1 << 63, math.MaxUint64 - 1, math.MaxUint64}
	l := make([]api.BandInfo, data.Between(0, 6))
	for i := range l {
		l[i] = api.BandInfo{Used: ints[data.Between(0, len(ints)-1)], Live: ints[data.Between(0, len(ints)-1)], Age: words[data.Between(0, len(words)-1)], Wear: words[data.Between(0, len(words)-1)]}
	}
	return l
}

// sizes lists sizes of bands, also ones that no list is valid for.
func sizes() []int {
	return []int{math.MinInt, -1, 0, 1, 2, 3, 4, 5, math.MaxInt - 1, math.MaxInt}
}

// changed returns a copy of a list in which one band is b.
func changed(l []api.BandInfo, band int, b api.BandInfo) []api.BandInfo {
	c := make([]api.BandInfo, len(l))
	copy(c, l)
	c[band] = b
	return c
}

// result is what a function that changes a band returns.
type result struct {
	l []api.BandInfo
	e api.Errno
}

func (r result) equal(to result) bool { return r.e == to.e && slices.Equal(r.l, to.l) }

// results lists what Append, Unlink and Reset return for a band.
func results(l []api.BandInfo, size, number int, now uint64) [3]result {
	var r [3]result
	r[0].l, r[0].e = band.Append(l, size, number, now)
	r[1].l, r[1].e = band.Unlink(l, number)
	r[2].l, r[2].e = band.Reset(l, number)
	return r
}

// wanted lists by the definition what Append, Unlink and Reset return for a band.
func wanted(l []api.BandInfo, size, number int, now uint64) [3]result {
	if number < 0 || number >= len(l) {
		return [3]result{{e: api.ErrRange}, {e: api.ErrRange}, {e: api.ErrRange}}
	}
	b := l[number]
	want := [3]result{{e: api.ErrSpace}, {e: api.ErrState}, {l: changed(l, number, api.BandInfo{Wear: b.Wear + 1})}}
	if b.Used < size {
		want[0] = result{l: changed(l, number, api.BandInfo{Used: b.Used + 1, Live: b.Live + 1, Age: now, Wear: b.Wear})}
	}
	if b.Live >= 1 {
		want[1] = result{l: changed(l, number, api.BandInfo{Used: b.Used, Live: b.Live - 1, Age: b.Age, Wear: b.Wear})}
	}
	return want
}

// check compares all functions with the definitions, for all bands of a list and for others, and fails if they change the list.
func check(t *testing.T, l []api.BandInfo, size int, now uint64) {
	t.Helper()
	before := append([]api.BandInfo(nil), l...)
	if got := band.Valid(l, size); got != valid(before, size) {
		t.Fatalf("Valid(%v, %d) = %v", l, size, got)
	}
	if got, want := band.Open(l, size), open(before, size); got != want {
		t.Fatalf("Open(%v, %d) = %d, not %d", l, size, got, want)
	}
	free := 0
	for _, b := range before {
		if b.Used == 0 {
			free++
		}
	}
	if got := band.Free(l); got != free {
		t.Fatalf("Free(%v) = %d, not %d", l, got, free)
	}
	numbers := disktest.Beyond(len(before))
	for i := range before {
		numbers = append(numbers, i)
	}
	for _, number := range numbers {
		got, want := results(l, size, number, now), wanted(before, size, number, now)
		for i, name := range []string{"Append", "Unlink", "Reset"} {
			if !got[i].equal(want[i]) {
				t.Fatalf("%s of band %d of %v, size %d, time %d: %v, not %v", name, number, l, size, now, got[i], want[i])
			}
		}
	}
	if !slices.Equal(l, before) {
		t.Fatalf("%v became %v", before, l)
	}
}

// P16.1: the example of the chapter.
func TestExample(t *testing.T) {
	l := example()
	if got := band.Open(l, 4); got != 3 {
		t.Errorf("Open = %d, not 3", got)
	}
	if got := band.Open(l[:3], 4); got != 1 {
		t.Errorf("Open = %d without band 3, not 1", got)
	}
	if !band.Valid(l, 4) || band.Free(l) != 1 {
		t.Errorf("Valid = %v, Free = %d", band.Valid(l, 4), band.Free(l))
	}
}

// P16.1: results written out, without the definitions above.
func TestChanges(t *testing.T) {
	got := results(example(), 4, 3, 12)
	for i, want := range []api.BandInfo{{Used: 2, Live: 2, Age: 12}, {Used: 1, Age: 9}, {Wear: 1}} {
		if got[i].e != api.OK || !slices.Equal(got[i].l, append(example()[:3], want)) {
			t.Errorf("function %d: %v", i, got[i])
		}
	}
	got = results([]api.BandInfo{{Age: 8, Wear: math.MaxUint64}}, 1, 0, 0)
	if want := (api.BandInfo{Used: 1, Live: 1, Wear: math.MaxUint64}); got[0].e != api.OK || !slices.Equal(got[0].l, []api.BandInfo{want}) {
		t.Errorf("Append at the time 0: %v", got[0])
	}
	if got[1].l != nil || got[1].e != api.ErrState {
		t.Errorf("Unlink without live entries: %v", got[1])
	}
	if got[2].e != api.OK || !slices.Equal(got[2].l, []api.BandInfo{{}}) {
		t.Errorf("Reset after the greatest Wear: %v", got[2])
	}
	for i, r := range results([]api.BandInfo{{Used: 3}}, 3, 0, 1) {
		if want := []api.Errno{api.ErrSpace, api.ErrState, api.OK}[i]; r.e != want || r.e != api.OK && r.l != nil {
			t.Errorf("function %d of a full band without live entries: %v", i, r)
		}
	}
}

// P16.1: a list is valid if it has from 1 to 64 bands, the size is at least 1, and each band keeps its bounds.
func TestValid(t *testing.T) {
	full := slices.Repeat([]api.BandInfo{{Used: 7, Live: 7, Age: math.MaxUint64, Wear: math.MaxUint64}}, 200)
	for length := range full {
		if got, want := band.Valid(full[:length], 7), length >= 1 && length <= 64; got != want {
			t.Errorf("Valid of %d bands = %v", length, got)
		}
	}
	if band.Valid(nil, 7) {
		t.Error("an empty list is valid")
	}
	for _, x := range []struct {
		used, live, size int
		want             bool
	}{
		{0, 0, 1, true}, {1, 0, 1, true}, {1, 1, 1, true}, {4, 2, 4, true}, {0, 0, math.MaxInt, true}, {math.MaxInt, math.MaxInt, math.MaxInt, true},
		{0, 0, 0, false}, {0, 0, -1, false}, {0, 0, math.MinInt, false}, {-1, -1, -1, false},
		{2, 0, 1, false}, {5, 5, 4, false}, {math.MaxInt, 0, 4, false},
		{0, 1, 4, false}, {1, 2, 4, false}, {3, 5, 4, false}, {3, math.MaxInt, 4, false},
		{-1, -1, 4, false}, {-1, 0, 4, false}, {0, -1, 4, false}, {4, -1, 4, false}, {math.MinInt, math.MinInt, 4, false}, {4, math.MinInt, 4, false},
	} {
		bad := api.BandInfo{Used: x.used, Live: x.live}
		if got := band.Valid([]api.BandInfo{bad}, x.size); got != x.want {
			t.Errorf("Valid of %+v for %d = %v", bad, x.size, got)
		}
		for place := range 64 {
			if l := changed(make([]api.BandInfo, 64), place, bad); band.Valid(l, x.size) != x.want {
				t.Errorf("Valid of %+v at %d for %d = %v", bad, place, x.size, !x.want)
			}
		}
	}
}

// P16.1: the open band is partial; neither free nor full bands count, however great their ages.
func TestOpen(t *testing.T) {
	const newest = math.MaxUint64
	for _, x := range []struct {
		l    []api.BandInfo
		size int
		want int
	}{
		{nil, 4, -1},
		{[]api.BandInfo{{Age: 1}}, 4, -1},
		{[]api.BandInfo{{Used: 4}}, 4, -1},
		{[]api.BandInfo{{Used: 1, Age: newest}}, 1, -1},
		{[]api.BandInfo{{Used: 4, Age: newest}, {Age: newest}, {Used: 1}}, 4, 2},
		{[]api.BandInfo{{Used: 1}, {Used: 3, Age: newest}, {Used: 4, Age: newest}}, 4, 1},
		{[]api.BandInfo{{Used: 1, Age: 5}, {Used: 1, Age: 6}, {Used: 1, Age: 6}, {Used: 1, Age: 4}}, 4, 1},
		{[]api.BandInfo{{Used: 3}, {Used: 2}, {Used: 1}}, 4, 0},
		{[]api.BandInfo{{Used: 1, Age: 1<<63 - 1}, {Used: 1, Age: 1 << 63}}, 2, 1},
		{[]api.BandInfo{{Used: 1, Wear: 9}, {Used: 1, Age: 1, Wear: 8}}, 2, 1},
		{[]api.BandInfo{{Used: 1}, {Used: 5}}, 4, -1},
		{[]api.BandInfo{{Used: 1}, {Used: 1, Live: 2}}, 4, -1},
		{[]api.BandInfo{{Used: 1}, {Used: -1, Live: -1}}, 4, -1},
		{[]api.BandInfo{{Used: 1}}, 0, -1},
		{make([]api.BandInfo, 65), 4, -1},
		{slices.Repeat([]api.BandInfo{{Used: 1}}, 65), 4, -1},
		{slices.Repeat([]api.BandInfo{{Used: 1}}, 64), 4, 0},
	} {
		if got := band.Open(x.l, x.size); got != x.want {
			t.Errorf("Open(%v, %d) = %d, not %d", x.l, x.size, got, x.want)
		}
	}
}

// P16.1: Free counts the bands of any list, also of one that is not valid.
func TestFree(t *testing.T) {
	for _, x := range []struct {
		l    []api.BandInfo
		want int
	}{
		{nil, 0}, {[]api.BandInfo{{Used: 1}}, 0}, {[]api.BandInfo{{Age: 3, Wear: 4}}, 1}, {[]api.BandInfo{{Live: 1}, {Live: -1}, {Used: -1}, {}}, 3}, {make([]api.BandInfo, 1000), 1000},
	} {
		if got := band.Free(x.l); got != x.want {
			t.Errorf("Free(%v) = %d, not %d", x.l, got, x.want)
		}
	}
}

// P16.1: all lists of one or two bands with small numbers, valid or not, and some of three, for small sizes.
func TestSmallLists(t *testing.T) {
	var bands []api.BandInfo
	for used := -1; used <= 3; used++ {
		for live := -1; live <= 3; live++ {
			bands = append(bands, api.BandInfo{Used: used, Live: live, Age: uint64(used+live+2) % 3, Wear: uint64(used + 1)})
		}
	}
	for size := -1; size <= 3; size++ {
		check(t, nil, size, 9)
		for _, a := range bands {
			check(t, []api.BandInfo{a}, size, 9)
			for _, b := range bands {
				check(t, []api.BandInfo{a, b}, size, 9)
				if a.Used > 0 && b.Live > 0 {
					check(t, []api.BandInfo{a, b, bands[18]}, size, 9)
				}
			}
		}
	}
}

// P16.1: random valid lists, and lists of numbers near bounds.
func TestRandomLists(t *testing.T) {
	data := disktest.Numbers(16)
	for range 2000 {
		size := data.Between(1, 9)
		l := list(&data, data.Between(1, 64), size)
		check(t, l, size, data.Next())
		check(t, l, size+data.Between(-2, 2), data.Next())
	}
	for range 5000 {
		l := extremes(&data)
		for _, size := range sizes() {
			check(t, l, size, data.Next()>>data.Between(0, 63))
		}
	}
	check(t, list(&data, 300, 1024), 1024, 5)
}

// P16.1: no such band comes before a full band or one without live entries.
func TestOrderOfErrors(t *testing.T) {
	for _, l := range [][]api.BandInfo{nil, {}, {{Used: 4}}, example()} {
		for _, size := range sizes() {
			for _, number := range disktest.Beyond(len(l)) {
				for i, r := range results(l, size, number, 1) {
					if r.l != nil || r.e != api.ErrRange {
						t.Fatalf("function %d of band %d of %v, size %d: %v", i, number, l, size, r)
					}
				}
			}
		}
	}
}

// P16.2: results for valid lists are valid, and only one band is changed.
func TestValidity(t *testing.T) {
	data := disktest.Numbers(17)
	for range 3000 {
		size := data.Between(1, 6)
		l := list(&data, data.Between(1, 64), size)
		number := data.Between(0, len(l)-1)
		for i, r := range results(l, size, number, data.Next()) {
			if r.e != api.OK {
				continue
			}
			if !valid(r.l, size) || !band.Valid(r.l, size) || len(r.l) != len(l) {
				t.Fatalf("function %d of band %d of %v, size %d: %v", i, number, l, size, r.l)
			}
			if !slices.Equal(r.l[:number], l[:number]) || !slices.Equal(r.l[number+1:], l[number+1:]) {
				t.Fatalf("function %d of band %d changes other bands of %v: %v", i, number, l, r.l)
			}
		}
	}
}

// P16.3: Append increases the sum of Live by 1, Unlink decreases it by 1, and Reset by the Live of the band.
func TestSums(t *testing.T) {
	data := disktest.Numbers(18)
	for range 3000 {
		size := data.Between(1, 6)
		l := list(&data, data.Between(1, 64), size)
		number := data.Between(0, len(l)-1)
		for i, r := range results(l, size, number, data.Next()) {
			if want := live(l) + []int{1, -1, -l[number].Live}[i]; r.e == api.OK && live(r.l) != want {
				t.Fatalf("function %d of band %d of %v: the sum is %d, not %d", i, number, l, live(r.l), want)
			}
		}
	}
}

// P16.3: a free band that has taken an append with a greater time than all others is the open one until it is full.
func TestFreeBandOpens(t *testing.T) {
	data := disktest.Numbers(19)
	for range 1000 {
		size := data.Between(1, 6)
		l := list(&data, data.Between(1, 64), size)
		number := data.Between(0, len(l)-1)
		l[number].Used, l[number].Live = 0, 0
		var now uint64
		for i := range l {
			l[i].Age >>= 1
			now = max(now, l[i].Age)
		}
		for count := 1; count <= size; count++ {
			now++
			next, e := band.Append(l, size, number, now)
			if e != api.OK || next[number].Used != count {
				t.Fatalf("append %d to band %d of %v: %v, %d", count, number, l, next, e)
			}
			if got := band.Open(next, size); (got == number) != (count < size) {
				t.Fatalf("after append %d of %d to band %d, Open(%v) = %d", count, size, number, next, got)
			}
			l = next
		}
		if next, e := band.Append(l, size, number, now+1); next != nil || e != api.ErrSpace {
			t.Fatalf("an append to a full band: %v, %d", next, e)
		}
	}
}

// P16.1 and P16.3: a long run of appends to the open band, unlinks and erasures agrees with counts that are kept apart.
func TestRun(t *testing.T) {
	const size, length = 4, 5
	data := disktest.Numbers(20)
	l := make([]api.BandInfo, length)
	var used, count, wear [length]int
	for now := range uint64(5000) {
		number := data.Between(0, length-1)
		if o := band.Open(l, size); o >= 0 && data.Between(0, 1) == 0 {
			number = o
		}
		kind := data.Between(0, 3) % 3
		r := results(l, size, number, now+1)[kind]
		switch {
		case kind == 0 && used[number] < size:
			used[number]++
			count[number]++
		case kind == 1 && count[number] > 0:
			count[number]--
		case kind == 2:
			used[number], count[number] = 0, 0
			wear[number]++
		default:
			if r.l != nil || r.e == api.OK {
				t.Fatalf("function %d of band %d of %v: %v", kind, number, l, r)
			}
			continue
		}
		if r.e != api.OK {
			t.Fatalf("function %d of band %d of %v: %d", kind, number, l, r.e)
		}
		l = r.l
		for i, b := range l {
			if b.Used != used[i] || b.Live != count[i] || b.Wear != uint64(wear[i]) {
				t.Fatalf("band %d is %+v, not used %d, live %d, wear %d", i, b, used[i], count[i], wear[i])
			}
		}
	}
}

// P16.1: results are new memory: neither the argument nor the memory behind it is changed, and changes of a result stay in it.
func TestMemory(t *testing.T) {
	behind := append(example(), slices.Repeat([]api.BandInfo{{Used: 1, Live: 1, Age: 77, Wear: 78}}, 4)...)
	l := behind[:4]
	before := slices.Clone(behind)
	for number := range l {
		first := results(l, 4, number, 10)
		for _, r := range first {
			all := r.l[:cap(r.l)]
			for i := range all {
				all[i] = api.BandInfo{Used: -9, Live: -9, Age: 99, Wear: 99}
			}
		}
		if !slices.Equal(behind, before) {
			t.Fatalf("%v became %v", before, behind)
		}
		for i, r := range results(l, 4, number, 10) {
			if want := wanted(before[:4], 4, number, 10)[i]; !r.equal(want) {
				t.Fatalf("function %d of band %d: %v after an earlier result was changed, not %v", i, number, r, want)
			}
		}
	}
}
