package media_test

import (
	"bytes"
	"math"
	"slices"
	"testing"

	"tegula/api"
	"tegula/disktest"
	"tegula/media"
)

// check compares all sectors of a medium with what is known about them.
func check(t *testing.T, m *media.Media, s disktest.Surface) {
	t.Helper()
	if d := s.Difference(m); d != "" {
		t.Fatalf("%+v: %s", m.Geometry(), d)
	}
}

// made returns a new medium of a valid geometry.
func made(t *testing.T, g api.Geometry) *media.Media {
	t.Helper()
	m, e := media.New(g)
	if m == nil || e != api.OK {
		t.Fatalf("New(%+v) = %v, %d", g, m, e)
	}
	return m
}

// must fails unless a call succeeded.
func must(t *testing.T, e api.Errno) {
	t.Helper()
	if e != api.OK {
		t.Fatalf("error %d", e)
	}
}

// change does one write or one erasure, the same to a medium and to what is known about it.
func change(t *testing.T, data *disktest.Numbers, m *media.Media, s disktest.Surface) {
	t.Helper()
	g := m.Geometry()
	if data.Between(0, 9) == 0 {
		band := data.Between(0, g.Bands-1)
		must(t, m.Erase(band))
		s.Erase(band)
		return
	}
	a, b := data.Between(0, len(s)-1), data.Bytes()
	must(t, m.Write(a, b))
	s.Write(a, g.Overlap, b)
}

// used returns a medium after many changes, and what is known about it.
func used(t *testing.T, data *disktest.Numbers, g api.Geometry) (*media.Media, disktest.Surface) {
	t.Helper()
	m, s := made(t, g), disktest.Blank(g)
	for range 2 * len(s) {
		change(t, data, m, s)
	}
	return m, s
}

// P11.1: the example of the chapter, and the one of the document.
func TestExamples(t *testing.T) {
	m := made(t, api.Geometry{Bands: 1, Tracks: 2, Sectors: 2, Overlap: 1})
	must(t, m.Write(2, []byte("two")))
	must(t, m.Write(0, []byte("zero")))
	want := []int{api.SectorWritten, api.SectorBlank, api.SectorDestroyed, api.SectorBlank}
	for a, state := range want {
		if got := m.State(a); got != state {
			t.Errorf("State(%d) = %d, want %d", a, got, state)
		}
	}
	if b, e := m.Read(0); string(b) != "zero" || e != api.OK {
		t.Errorf("Read(0) = %q, %d", b, e)
	}
	if b, e := m.Read(2); b != nil || e != api.ErrMedia {
		t.Errorf("Read(2) = %v, %d", b, e)
	}
}

// P11.1: a new medium has the given geometry, and its sectors are blank.
func TestNew(t *testing.T) {
	for _, g := range disktest.Geometries() {
		m := made(t, g)
		if m.Geometry() != g {
			t.Errorf("Geometry = %+v, want %+v", m.Geometry(), g)
		}
		check(t, m, disktest.Blank(g))
	}
}

// P11.1: New refuses a geometry with a field out of range, with no other result.
func TestNewInvalid(t *testing.T) {
	good := api.Geometry{Random: 5, Bands: 3, Tracks: 4, Sectors: 2, Overlap: 1}
	all := []api.Geometry{{}, {Random: 7}}
	far := []int{math.MinInt, -1, 1 << 32, math.MaxInt}
	for field, near := range [][]int{{-1, 16385}, {0, 65}, {0, 17}, {0, 65}, {-1, 4}} {
		for _, n := range append(near, far...) {
			g := good
			*[]*int{&g.Random, &g.Bands, &g.Tracks, &g.Sectors, &g.Overlap}[field] = n
			all = append(all, g)
		}
	}
	for _, g := range all {
		if m, e := media.New(g); m != nil || e != api.ErrArg {
			t.Errorf("New(%+v) = %v, %d", g, m, e)
		}
	}
}

// P11.1: the methods of a nil medium.
func TestNil(t *testing.T) {
	var m *media.Media
	if m.Geometry() != (api.Geometry{}) || m.Clone() != nil {
		t.Error("Geometry or Clone of nil")
	}
	for _, a := range append(disktest.Beyond(4), 0, 1) {
		if got := m.State(a); got != api.SectorBlank {
			t.Errorf("State(%d) = %d", a, got)
		}
		if b, e := m.Read(a); b != nil || e != api.ErrState {
			t.Errorf("Read(%d) = %v, %d", a, b, e)
		}
		if e := m.Write(a, []byte{1}); e != api.ErrState {
			t.Errorf("Write(%d) = %d", a, e)
		}
		if e := m.Write(a, make([]byte, 65)); e != api.ErrState {
			t.Errorf("Write(%d) of 65 bytes = %d", a, e)
		}
		if e := m.Erase(a); e != api.ErrState {
			t.Errorf("Erase(%d) = %d", a, e)
		}
	}
}

// P11.1: a medium that was not made by New has no sectors and no bands.
func TestZero(t *testing.T) {
	var m media.Media
	if m.Geometry() != (api.Geometry{}) || m.State(0) != api.SectorBlank || m.Clone() == nil {
		t.Error("Geometry, State or Clone")
	}
	_, e := m.Read(0)
	if e != api.ErrRange || m.Write(0, nil) != api.ErrRange || m.Erase(0) != api.ErrRange {
		t.Error("Read, Write or Erase")
	}
}

// P11.1: sectors and bands that do not exist; nothing changes, and ErrRange comes before ErrLimit.
func TestRange(t *testing.T) {
	data := disktest.Numbers(5)
	for _, g := range disktest.Geometries() {
		m, s := used(t, &data, g)
		for _, a := range disktest.Beyond(len(s)) {
			if got := m.State(a); got != api.SectorBlank {
				t.Errorf("%+v: State(%d) = %d", g, a, got)
			}
			if b, e := m.Read(a); b != nil || e != api.ErrRange {
				t.Errorf("%+v: Read(%d) = %v, %d", g, a, b, e)
			}
			for _, n := range []int{0, 1, 64, 65, 1000} {
				if e := m.Write(a, make([]byte, n)); e != api.ErrRange {
					t.Errorf("%+v: Write(%d) of %d bytes = %d", g, a, n, e)
				}
			}
		}
		for _, band := range disktest.Beyond(g.Bands) {
			if e := m.Erase(band); e != api.ErrRange {
				t.Errorf("%+v: Erase(%d) = %d", g, band, e)
			}
		}
		check(t, m, s)
	}
}

// P11.1: a sector has from 0 to 64 bytes; a write of more changes nothing.
func TestLimit(t *testing.T) {
	g := api.Geometry{Random: 1, Bands: 1, Tracks: 2, Sectors: 1, Overlap: 1}
	m, s := made(t, g), disktest.Blank(g)
	long := bytes.Repeat([]byte{0x5A}, 1<<16)
	for a := range s {
		for _, b := range [][]byte{nil, {}, {0}, long[:63], long[:64]} {
			must(t, m.Write(a, b))
			s.Write(a, g.Overlap, b)
			check(t, m, s)
			for _, n := range []int{65, 66, 128, 1 << 16} {
				if e := m.Write(a, long[:n]); e != api.ErrLimit {
					t.Errorf("Write(%d) of %d bytes = %d", a, n, e)
				}
			}
			check(t, m, s)
		}
	}
}

// P11.1: a write takes effect in a sector of any state, and destroys a shadow of any state.
func TestStates(t *testing.T) {
	g := api.Geometry{Bands: 1, Tracks: 2, Sectors: 1, Overlap: 1}
	// The steps make sector 1, which is the shadow of sector 0, have each state.
	steps := map[int]func(m *media.Media) api.Errno{
		api.SectorBlank:     func(m *media.Media) api.Errno { return m.Erase(0) },
		api.SectorWritten:   func(m *media.Media) api.Errno { return m.Write(1, []byte("old")) },
		api.SectorDestroyed: func(m *media.Media) api.Errno { return m.Write(0, []byte("old")) },
	}
	for state, step := range steps {
		m := made(t, g)
		must(t, step(m))
		if got := m.State(1); got != state {
			t.Errorf("state %d, want %d", got, state)
		}
		c := m.Clone()
		must(t, m.Write(1, []byte("new")))
		if b, e := m.Read(1); string(b) != "new" || e != api.OK || m.State(1) != api.SectorWritten {
			t.Errorf("write to state %d: %q, %d", state, b, e)
		}
		must(t, c.Write(0, []byte("new")))
		if b, e := c.Read(1); b != nil || e != api.ErrMedia || c.State(1) != api.SectorDestroyed {
			t.Errorf("shadow of state %d: %q, %d", state, b, e)
		}
	}
}

// P11.1 and P11.2: after each of many writes and erasures, exactly the specified sectors have changed.
func TestLocality(t *testing.T) {
	data := disktest.Numbers(2)
	for _, g := range disktest.Geometries() {
		m, s := made(t, g), disktest.Blank(g)
		for range min(3*len(s), 150) {
			change(t, &data, m, s)
			check(t, m, s)
		}
		if m.Geometry() != g {
			t.Errorf("Geometry = %+v, want %+v", m.Geometry(), g)
		}
	}
}

// P11.2: the erasure of each band leaves the random sectors and the other bands as they are.
func TestErase(t *testing.T) {
	data := disktest.Numbers(3)
	for _, g := range disktest.Geometries() {
		for band := range g.Bands {
			m, s := made(t, g), disktest.Blank(g)
			for a := range s {
				b := data.Bytes()
				must(t, m.Write(a, b))
				s.Write(a, g.Overlap, b)
			}
			must(t, m.Erase(band))
			s.Erase(band)
			check(t, m, s)
			must(t, m.Erase(band))
			check(t, m, s)
		}
	}
}

// P11.1: a copy has the geometry and the sectors of the original, and the two do not affect each other.
func TestClone(t *testing.T) {
	data := disktest.Numbers(4)
	for _, g := range disktest.Geometries() {
		m, s := used(t, &data, g)
		c, copied := m.Clone(), slices.Clone(s)
		if c == m || c.Geometry() != g {
			t.Fatalf("%+v: Clone has the geometry %+v", g, c.Geometry())
		}
		check(t, c, copied)
		for range len(s) {
			change(t, &data, m, s)
		}
		check(t, m, s)
		check(t, c, copied)
		for range len(s) {
			change(t, &data, c, copied)
		}
		check(t, m, s)
		check(t, c, copied)
	}
}

// P11.2: Write keeps a copy of its bytes and does not change them, and what Read returns is new memory.
func TestNewMemory(t *testing.T) {
	m := made(t, api.Geometry{Random: 1, Bands: 1, Tracks: 2, Sectors: 1, Overlap: 1})
	c := m.Clone()
	for a := range 3 {
		b := []byte("bytes")
		must(t, m.Write(a, b))
		must(t, c.Write(a, b))
		if string(b) != "bytes" {
			t.Errorf("Write(%d) changed its argument to %q", a, b)
		}
		b[0] = 'x'
		first, _ := m.Read(a)
		d := m.Clone()
		if string(first) != "bytes" {
			t.Fatalf("Read(%d) = %q", a, first)
		}
		first[1] = 'x'
		for _, other := range []*media.Media{m, c, d} {
			if again, e := other.Read(a); string(again) != "bytes" || e != api.OK {
				t.Errorf("Read(%d) = %q, %d", a, again, e)
			}
		}
	}
}

// P11.3: whatever a band contained, after its erasure it can be written in the order of the addresses, and all of it can be read.
func TestSequential(t *testing.T) {
	data := disktest.Numbers(6)
	for _, g := range disktest.Geometries() {
		m, _ := used(t, &data, g)
		for band := range g.Bands {
			must(t, m.Erase(band))
			var kept [][]byte
			first := g.Random + band*g.Tracks*g.Sectors
			for i := range g.Tracks * g.Sectors {
				b := data.Bytes()
				must(t, m.Write(first+i, b))
				kept = append(kept, b)
			}
			for i, want := range kept {
				if got, e := m.Read(first + i); e != api.OK || !bytes.Equal(got, want) {
					t.Fatalf("%+v: Read(%d) = %v, %d, want %v", g, first+i, got, e, want)
				}
			}
		}
	}
}

// P11.1 and P11.3: the largest medium.
func TestLargest(t *testing.T) {
	g := api.Geometry{Random: 16384, Bands: 64, Tracks: 16, Sectors: 64, Overlap: 3}
	m := made(t, g)
	const size = 16384 + 64*16*64
	for a := range size {
		must(t, m.Write(a, []byte{byte(a), byte(a >> 8), byte(a >> 16)}))
	}
	for a := range size {
		if b, e := m.Read(a); e != api.OK || !bytes.Equal(b, []byte{byte(a), byte(a >> 8), byte(a >> 16)}) {
			t.Fatalf("Read(%d) = %v, %d", a, b, e)
		}
	}
	must(t, m.Write(size-4*64, nil))
	for k, want := range []int{api.SectorWritten, api.SectorDestroyed, api.SectorDestroyed, api.SectorDestroyed} {
		if got := m.State(size - (4-k)*64); got != want {
			t.Errorf("track %d: state %d, want %d", 12+k, got, want)
		}
	}
	if _, e := m.Read(size); e != api.ErrRange {
		t.Errorf("Read(%d): %d", size, e)
	}
	must(t, m.Erase(63))
	if m.State(size-1024-1) != api.SectorWritten || m.State(size-1024) != api.SectorBlank || m.State(size-1) != api.SectorBlank {
		t.Error("Erase(63)")
	}
}
