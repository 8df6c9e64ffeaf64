package cache_test

import (
	"bytes"
	"math"
	"slices"
	"testing"

	"tegula/api"
	"tegula/cache"
	"tegula/disktest"
	"tegula/media"
)

// must fails unless a call succeeded.
func must(t *testing.T, e api.Errno) {
	t.Helper()
	if e != api.OK {
		t.Fatalf("error %d", e)
	}
}

// medium returns a blank medium of a valid geometry.
func medium(t *testing.T, g api.Geometry) *media.Media {
	t.Helper()
	m, e := media.New(g)
	must(t, e)
	return m
}

// made returns a cache over a blank medium of a valid geometry.
func made(t *testing.T, g api.Geometry) *cache.Cache {
	t.Helper()
	c := cache.New(medium(t, g))
	if c == nil {
		t.Fatalf("New of a medium with %+v is nil", g)
	}
	return c
}

// changeable is a medium or a cache.
type changeable interface {
	Write(a int, b []byte) api.Errno
	Erase(band int) api.Errno
}

// operation is a write of a sector, or the erasure of a band.
type operation struct {
	erase bool
	at    int
	bytes []byte
}

// operations returns n operations; every fifth one, or so, is an erasure.
func operations(data *disktest.Numbers, g api.Geometry, n int) []operation {
	size := g.Random + g.Bands*g.Tracks*g.Sectors
	all := make([]operation, n)
	for i := range all {
		if data.Between(0, 4) == 0 {
			all[i] = operation{erase: true, at: data.Between(0, g.Bands-1)}
		} else {
			all[i] = operation{at: data.Between(0, size-1), bytes: data.Bytes()}
		}
	}
	return all
}

// do does operations.
func do(t *testing.T, c changeable, all ...operation) {
	t.Helper()
	for _, o := range all {
		if o.erase {
			must(t, c.Erase(o.at))
		} else {
			must(t, c.Write(o.at, o.bytes))
		}
	}
}

// after returns what is known about blank sectors after operations.
func after(g api.Geometry, all []operation) disktest.Surface {
	s := disktest.Blank(g)
	for _, o := range all {
		if o.erase {
			s.Erase(o.at)
		} else {
			s.Write(o.at, g.Overlap, o.bytes)
		}
	}
	return s
}

// check compares a cache with the operations that took effect since all sectors were blank and those that are pending.
func check(t *testing.T, c *cache.Cache, g api.Geometry, done, pending []operation) {
	t.Helper()
	if got := c.Pending(); got != len(pending) {
		t.Fatalf("%+v: Pending = %d, want %d", g, got, len(pending))
	}
	if d := after(g, slices.Concat(done, pending)).Difference(c); d != "" {
		t.Fatalf("%+v, %d done, %d pending: contents: %s", g, len(done), len(pending), d)
	}
	m := c.Durable()
	if m.Geometry() != g {
		t.Fatalf("%+v: Durable has the geometry %+v", g, m.Geometry())
	}
	if d := after(g, done).Difference(m); d != "" {
		t.Fatalf("%+v, %d done, %d pending: medium: %s", g, len(done), len(pending), d)
	}
}

// P12.1: the example of the chapter.
func TestExample(t *testing.T) {
	c := made(t, api.Geometry{Random: 2, Bands: 1, Tracks: 1, Sectors: 1})
	must(t, c.Write(0, []byte("a")))
	must(t, c.Write(1, []byte("b")))
	if b, e := c.Read(1); string(b) != "b" || e != api.OK {
		t.Errorf("Read(1) = %q, %d", b, e)
	}
	c.Cut(1)
	if b, e := c.Read(0); string(b) != "a" || e != api.OK {
		t.Errorf("Read(0) = %q, %d after Cut(1)", b, e)
	}
	if b, e := c.Read(1); b != nil || e != api.ErrMedia || c.State(1) != api.SectorBlank {
		t.Errorf("Read(1) = %v, %d after Cut(1), and the state is %d", b, e, c.State(1))
	}
}

// P12.1, P1: the methods of a nil cache, and New of no medium.
func TestNil(t *testing.T) {
	var c *cache.Cache
	if cache.New(nil) != nil {
		t.Error("New(nil) is not nil")
	}
	for _, a := range append(disktest.Beyond(4), 0, 1) {
		if got := c.State(a); got != api.SectorBlank {
			t.Errorf("State(%d) = %d", a, got)
		}
		if b, e := c.Read(a); b != nil || e != api.ErrState {
			t.Errorf("Read(%d) = %v, %d", a, b, e)
		}
		for _, n := range []int{0, 64, 65} {
			if e := c.Write(a, make([]byte, n)); e != api.ErrState {
				t.Errorf("Write(%d) of %d bytes = %d", a, n, e)
			}
		}
		if e := c.Erase(a); e != api.ErrState {
			t.Errorf("Erase(%d) = %d", a, e)
		}
		c.Flush()
		c.Cut(a)
		if got := c.Pending(); got != 0 {
			t.Errorf("Pending = %d", got)
		}
	}
	if c.Durable() != nil || c.Clone() != nil {
		t.Error("Durable or Clone is not nil")
	}
}

// P12.1, P1: caches that New did not make, and those over a medium that media.New did not make, have no sectors.
func TestZero(t *testing.T) {
	for want, c := range map[api.Errno]*cache.Cache{api.ErrState: {}, api.ErrRange: cache.New(&media.Media{})} {
		for _, c := range []*cache.Cache{c, c.Clone()} {
			_, e := c.Read(0)
			if e != want || c.Write(0, nil) != want || c.Erase(0) != want || c.State(0) != api.SectorBlank {
				t.Errorf("Read, Write, Erase or State; the error is not %d", want)
			}
			c.Flush()
			c.Cut(1)
			if c.Pending() != 0 || c.Durable().Geometry() != (api.Geometry{}) {
				t.Error("Pending or Durable")
			}
		}
	}
}

// P12.1: New copies the medium, whatever the states of its sectors are; the cache and the medium do not affect each other.
func TestNew(t *testing.T) {
	data := disktest.Numbers(1)
	for _, g := range disktest.Geometries() {
		m, first := medium(t, g), operations(&data, g, 30)
		do(t, m, first...)
		c := cache.New(m)
		check(t, c, g, first, nil)
		mine, other := operations(&data, g, 10), operations(&data, g, 10)
		do(t, c, mine...)
		do(t, m, other...)
		check(t, c, g, first, mine)
		c.Cut(5)
		check(t, c, g, slices.Concat(first, mine[:5]), nil)
		if d := after(g, slices.Concat(first, other)).Difference(m); d != "" {
			t.Fatalf("%+v: %s", g, d)
		}
	}
}

// P12.1: Durable copies the medium; the cache and the copy do not affect each other.
func TestDurable(t *testing.T) {
	data := disktest.Numbers(2)
	for _, g := range disktest.Geometries() {
		c, all := made(t, g), operations(&data, g, 30)
		do(t, c, all[:10]...)
		c.Flush()
		do(t, c, all[10:20]...)
		m := c.Durable()
		do(t, m, all[20:]...)
		check(t, c, g, all[:10], all[10:20])
		c.Flush()
		check(t, c, g, all[:20], nil)
		if d := after(g, slices.Concat(all[:10], all[20:])).Difference(m); d != "" {
			t.Fatalf("%+v: %s", g, d)
		}
	}
}

// P12.1: after each operation, the contents are those after all pending operations, and the medium has not changed.
func TestContents(t *testing.T) {
	data := disktest.Numbers(3)
	for _, g := range disktest.Geometries() {
		c, all := made(t, g), operations(&data, g, 60)
		check(t, c, g, nil, nil)
		for i, o := range all {
			do(t, c, o)
			check(t, c, g, nil, all[:i+1])
		}
	}
}

// fails does operations that a medium with these sectors and bands does not permit.
func fails(t *testing.T, c *cache.Cache, sectors, bands int) {
	t.Helper()
	for _, a := range disktest.Beyond(sectors) {
		if got := c.State(a); got != api.SectorBlank {
			t.Errorf("State(%d) = %d", a, got)
		}
		if b, e := c.Read(a); b != nil || e != api.ErrRange {
			t.Errorf("Read(%d) = %v, %d", a, b, e)
		}
		for _, n := range []int{0, 64, 65, 1000} {
			if e := c.Write(a, make([]byte, n)); e != api.ErrRange {
				t.Errorf("Write(%d) of %d bytes = %d", a, n, e)
			}
		}
	}
	for _, band := range disktest.Beyond(bands) {
		if e := c.Erase(band); e != api.ErrRange {
			t.Errorf("Erase(%d) = %d", band, e)
		}
	}
	for a := range sectors {
		if e := c.Write(a, make([]byte, 65)); e != api.ErrLimit {
			t.Errorf("Write(%d) of 65 bytes = %d", a, e)
		}
	}
	if e := c.Write(0, make([]byte, 1<<20)); e != api.ErrLimit {
		t.Errorf("Write(0) of 2^20 bytes = %d", e)
	}
}

// P12.1: an operation that returns an error is not appended and changes nothing, ErrRange comes before ErrLimit, and the operations before it and behind it are kept in order.
func TestErrors(t *testing.T) {
	data := disktest.Numbers(4)
	for _, g := range disktest.Geometries() {
		c, all := made(t, g), operations(&data, g, 20)
		sectors := len(disktest.Blank(g))
		fails(t, c, sectors, g.Bands)
		check(t, c, g, nil, nil)
		do(t, c, all[:10]...)
		fails(t, c, sectors, g.Bands)
		check(t, c, g, nil, all[:10])
		do(t, c, all[10:]...)
		check(t, c, g, nil, all)
		c.Cut(15)
		fails(t, c, sectors, g.Bands)
		check(t, c, g, all[:15], nil)
	}
}

// P12.1: a sector takes from 0 to 64 bytes, also through Cut and Flush.
func TestBytes(t *testing.T) {
	g := api.Geometry{Random: 1, Bands: 1, Tracks: 2, Sectors: 1, Overlap: 1}
	long := bytes.Repeat([]byte{0x5A}, 64)
	for _, b := range [][]byte{nil, {}, {0}, long[:63], long} {
		c, all := made(t, g), []operation{{at: 0, bytes: b}, {at: 2, bytes: b}}
		do(t, c, all...)
		check(t, c, g, nil, all)
		d := c.Clone()
		c.Cut(2)
		d.Flush()
		check(t, c, g, all, nil)
		check(t, d, g, all, nil)
	}
}

// P12.1, P12.2: after a cut at any number, also beyond the pending operations and below 0, exactly the flushed operations and the first ones after them have taken effect; so it is round after round, whether the round ends with a flush or with a cut.
func TestCut(t *testing.T) {
	data := disktest.Numbers(5)
	for _, g := range disktest.Geometries() {
		c := made(t, g)
		var done []operation
		for range 4 {
			pending := operations(&data, g, data.Between(0, 12))
			do(t, c, pending...)
			n := len(pending)
			keeps := []int{math.MinInt, -n - 1, -1, n + 1, 1 << 32, math.MaxInt}
			for keep := range n + 1 {
				keeps = append(keeps, keep)
			}
			for _, keep := range keeps {
				d := c.Clone()
				d.Cut(keep)
				check(t, d, g, slices.Concat(done, pending[:min(max(keep, 0), n)]), nil)
			}
			check(t, c, g, done, pending)
			if data.Between(0, 1) == 0 {
				c.Flush()
				done = slices.Concat(done, pending)
			} else {
				keep := data.Between(0, n)
				c.Cut(keep)
				done = slices.Concat(done, pending[:keep])
			}
			check(t, c, g, done, nil)
		}
	}
}

// P12.1, P12.2: a flush does not change the contents, and nothing that was flushed is lost or done again.
func TestFlush(t *testing.T) {
	data := disktest.Numbers(6)
	for _, g := range disktest.Geometries() {
		c, all := made(t, g), operations(&data, g, 40)
		c.Flush()
		check(t, c, g, nil, nil)
		for i := 0; i < len(all); i += 8 {
			do(t, c, all[i:i+8]...)
			check(t, c, g, all[:i], all[i:i+8])
			for range 2 {
				c.Flush()
				check(t, c, g, all[:i+8], nil)
			}
			for _, keep := range []int{-1, 0, 1, 100} {
				c.Cut(keep)
				check(t, c, g, all[:i+8], nil)
			}
		}
	}
}

// P12.3: of operations on different sectors, those that have taken effect after a cut are the first ones; of writes to one sector, the last of them decides.
func TestOrder(t *testing.T) {
	const n = 20
	c := made(t, api.Geometry{Random: n + 1, Bands: 1, Tracks: 1, Sectors: 1})
	for i := range n {
		a := i * 7 % n
		must(t, c.Write(a, []byte{1}))
		must(t, c.Write(n, []byte{byte(i)}))
	}
	for keep := range 2*n + 1 {
		d := c.Clone()
		d.Cut(keep)
		for i := range n {
			want := api.SectorBlank
			if 2*i < keep {
				want = api.SectorWritten
			}
			if got := d.State(i * 7 % n); got != want {
				t.Errorf("Cut(%d): write %d left the state %d, want %d", keep, i, got, want)
			}
		}
		b, e := d.Read(n)
		if keep < 2 && (b != nil || e != api.ErrMedia) || keep >= 2 && (e != api.OK || len(b) != 1 || int(b[0]) != keep/2-1) {
			t.Errorf("Cut(%d): the last sector is %v, %d", keep, b, e)
		}
	}
}

// P12.2, P12.3: the order of writes and erasures of one band decides the states; each row is the band after one operation more.
func TestOrderOfBand(t *testing.T) {
	const blank, written, destroyed = api.SectorBlank, api.SectorWritten, api.SectorDestroyed
	c := made(t, api.Geometry{Bands: 1, Tracks: 3, Sectors: 1, Overlap: 1})
	do(t, c, operation{at: 1}, operation{at: 0}, operation{at: 1}, operation{erase: true}, operation{at: 2}, operation{at: 1})
	for keep, want := range [][]int{
		{blank, blank, blank},
		{blank, written, destroyed},
		{written, destroyed, destroyed},
		{written, written, destroyed},
		{blank, blank, blank},
		{blank, blank, written},
		{blank, written, destroyed},
	} {
		d := c.Clone()
		d.Cut(keep)
		for a, state := range want {
			if got := d.State(a); got != state {
				t.Errorf("Cut(%d): State(%d) = %d, want %d", keep, a, got, state)
			}
		}
	}
}

// P12.1: a copy has the medium and the pending operations of the original, and what is done to one of them does not affect the other.
func TestClone(t *testing.T) {
	data := disktest.Numbers(7)
	for _, g := range disktest.Geometries() {
		for n := range 10 {
			c, all := made(t, g), operations(&data, g, 5+n)
			do(t, c, all[:5]...)
			c.Flush()
			done, pending := all[:5], all[5:]
			do(t, c, pending...)
			d := c.Clone()
			if d == c {
				t.Fatal("Clone returned the original")
			}
			check(t, d, g, done, pending)
			mine, other := operations(&data, g, 3), operations(&data, g, 3)
			for i := range mine {
				do(t, c, mine[i])
				do(t, d, other[i])
			}
			check(t, c, g, done, slices.Concat(pending, mine))
			check(t, d, g, done, slices.Concat(pending, other))
			c.Cut(n + 2)
			check(t, c, g, slices.Concat(done, pending, mine[:2]), nil)
			check(t, d, g, done, slices.Concat(pending, other))
			d.Flush()
			check(t, c, g, slices.Concat(done, pending, mine[:2]), nil)
			check(t, d, g, slices.Concat(done, pending, other), nil)
		}
	}
}

// P12.1: Write keeps a copy of its bytes and does not change them, and what Read returns is new memory.
func TestNewMemory(t *testing.T) {
	c := made(t, api.Geometry{Random: 1, Bands: 1, Tracks: 2, Sectors: 1, Overlap: 1})
	for a := range 3 {
		b := []byte("bytes")
		must(t, c.Write(a, b))
		if string(b) != "bytes" {
			t.Errorf("Write(%d) changed its argument to %q", a, b)
		}
		b[0] = 'x'
	}
	d, f := c.Clone(), c.Clone()
	d.Cut(3)
	f.Flush()
	for _, x := range []*cache.Cache{c, d, f} {
		for a := range 3 {
			for range 2 {
				b, e := x.Read(a)
				if string(b) != "bytes" || e != api.OK {
					t.Fatalf("Read(%d) = %q, %d", a, b, e)
				}
				b[1] = 'x'
			}
		}
	}
	f.Cut(0)
	if b, e := f.Read(0); string(b) != "bytes" || e != api.OK {
		t.Errorf("Read(0) = %q, %d after Flush and Cut(0)", b, e)
	}
}

// P12.1, P12.2: many pending operations on the largest medium.
func TestLargest(t *testing.T) {
	g := api.Geometry{Random: 16384, Bands: 64, Tracks: 16, Sectors: 64, Overlap: 3}
	const size, kept = 81920, 50000
	c := made(t, g)
	for a := range size {
		must(t, c.Write(a, []byte{byte(a), byte(a >> 8), byte(a >> 16)}))
	}
	if got := c.Pending(); got != size {
		t.Errorf("Pending = %d", got)
	}
	d := c.Clone()
	c.Flush()
	c.Cut(0)
	d.Cut(kept)
	for a := range size {
		want := []byte{byte(a), byte(a >> 8), byte(a >> 16)}
		if b, e := c.Read(a); e != api.OK || !bytes.Equal(b, want) {
			t.Fatalf("flushed: Read(%d) = %v, %d", a, b, e)
		}
		b, e := d.Read(a)
		if a < kept && (e != api.OK || !bytes.Equal(b, want)) || a >= kept && e != api.ErrMedia {
			t.Fatalf("cut: Read(%d) = %v, %d", a, b, e)
		}
	}
	if d.State(kept) == api.SectorWritten || d.State(size-1) != api.SectorBlank {
		t.Errorf("cut: the states of sectors %d and %d are %d and %d", kept, size-1, d.State(kept), d.State(size-1))
	}
}
