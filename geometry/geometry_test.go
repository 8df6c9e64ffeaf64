package geometry_test

import (
	"math"
	"slices"
	"testing"

	"tegula/api"
	"tegula/disktest"
	"tegula/geometry"
)

// middle returns a valid geometry with at most 788 sectors.
func middle(data *disktest.Numbers) api.Geometry {
	return api.Geometry{Random: data.Between(0, 20), Bands: data.Between(1, 6), Tracks: data.Between(1, 16), Sectors: data.Between(1, 8), Overlap: data.Between(0, 3)}
}

// place is what is known about a sector.
type place struct {
	random                bool
	band, track, position int
}

// places lists the sectors of a valid geometry in the order of the chapter: the index of a place is its address.
func places(g api.Geometry) []place {
	var all []place
	for range g.Random {
		all = append(all, place{random: true})
	}
	for band := range g.Bands {
		for track := range g.Tracks {
			for position := range g.Sectors {
				all = append(all, place{band: band, track: track, position: position})
			}
		}
	}
	return all
}

// shadow searches all sectors for those that lie in the shadow of sector a.
func shadow(g api.Geometry, all []place, a int) []int {
	var found []int
	from := all[a]
	for b, p := range all {
		if from.random || p.random || p.band != from.band || p.position != from.position {
			continue
		}
		if p.track > from.track && p.track <= from.track+g.Overlap {
			found = append(found, b)
		}
	}
	return found
}

// small lists all geometries with few sectors.
func small() []api.Geometry {
	var all []api.Geometry
	for _, random := range []int{0, 1, 5} {
		for bands := 1; bands <= 3; bands++ {
			for tracks := 1; tracks <= 6; tracks++ {
				for sectors := 1; sectors <= 3; sectors++ {
					for overlap := range 4 {
						all = append(all, api.Geometry{Random: random, Bands: bands, Tracks: tracks, Sectors: sectors, Overlap: overlap})
					}
				}
			}
		}
	}
	return all
}

// samples lists valid geometries: small ones, others of middle size, and those at the limits.
func samples() []api.Geometry {
	all := append(small(),
		api.Geometry{Bands: 1, Tracks: 1, Sectors: 1},
		api.Geometry{Random: 16384, Bands: 1, Tracks: 1, Sectors: 1, Overlap: 3},
		api.Geometry{Bands: 64, Tracks: 1, Sectors: 1, Overlap: 3},
		api.Geometry{Bands: 1, Tracks: 16, Sectors: 1, Overlap: 3},
		api.Geometry{Bands: 1, Tracks: 1, Sectors: 64, Overlap: 3},
	)
	data := disktest.Numbers(1)
	for range 40 {
		all = append(all, middle(&data))
	}
	return all
}

// largest is the geometry with the most sectors.
func largest() api.Geometry {
	return api.Geometry{Random: 16384, Bands: 64, Tracks: 16, Sectors: 64, Overlap: 3}
}

// invalid lists geometries in which one field, or several, are just out of range, or far from it.
func invalid() []api.Geometry {
	good := api.Geometry{Random: 5, Bands: 3, Tracks: 4, Sectors: 2, Overlap: 1}
	far := []int{math.MinInt, math.MinInt32, -2, -1, math.MaxInt32, 1 << 32, 1<<32 + 1, math.MaxInt - 1, math.MaxInt}
	all := []api.Geometry{{}, {Random: 7}, {Random: math.MaxInt, Bands: math.MaxInt, Tracks: math.MaxInt, Sectors: math.MaxInt, Overlap: math.MaxInt}, {Random: math.MinInt, Bands: math.MinInt, Tracks: math.MinInt, Sectors: math.MinInt, Overlap: math.MinInt}, {Bands: -1, Tracks: -1, Sectors: 1}}
	for field, near := range [][]int{{-1, 16385}, {0, 65}, {0, 17}, {0, 65}, {-1, 4}} {
		for _, n := range append(near, far...) {
			g := good
			*fields(&g)[field] = n
			all = append(all, g)
		}
	}
	return all
}

// fields lists the fields of a geometry.
func fields(g *api.Geometry) []*int {
	return []*int{&g.Random, &g.Bands, &g.Tracks, &g.Sectors, &g.Overlap}
}

// P10.1: the examples of the chapter, and the one of chapter 11.
func TestExamples(t *testing.T) {
	g := api.Geometry{Random: 80, Bands: 5, Tracks: 2, Sectors: 4, Overlap: 1}
	if band, track, position, e := geometry.Locate(g, 93); band != 1 || track != 1 || position != 1 || e != api.OK {
		t.Errorf("Locate(93) = %d, %d, %d, %d", band, track, position, e)
	}
	if got := geometry.Shadow(g, 89); !slices.Equal(got, []int{93}) {
		t.Errorf("Shadow(89) = %v", got)
	}
	if got := geometry.Size(g); got != 120 {
		t.Errorf("Size = %d", got)
	}
	if got := geometry.BandSize(g); got != 8 {
		t.Errorf("BandSize = %d", got)
	}
	if got := geometry.Shadow(api.Geometry{Bands: 1, Tracks: 2, Sectors: 2, Overlap: 1}, 0); !slices.Equal(got, []int{2}) {
		t.Errorf("the shadow of sector 0 of the medium in chapter 11 is %v", got)
	}
}

// P10.1: Valid reports exactly the ranges of the chapter, of each field.
func TestValid(t *testing.T) {
	good := api.Geometry{Random: 5, Bands: 3, Tracks: 4, Sectors: 2, Overlap: 1}
	ranges := [][2]int{{0, 16384}, {1, 64}, {1, 16}, {1, 64}, {0, 3}}
	for field, r := range ranges {
		for n := -3; n <= r[1]+3; n++ {
			g := good
			*fields(&g)[field] = n
			if got, want := geometry.Valid(g), n >= r[0] && n <= r[1]; got != want {
				t.Errorf("Valid(%+v) = %v", g, got)
			}
		}
	}
	for i := range 32 {
		var g api.Geometry
		for field, r := range ranges {
			*fields(&g)[field] = r[i>>field&1]
		}
		if !geometry.Valid(g) {
			t.Errorf("%+v is not valid", g)
		}
	}
	for _, g := range invalid() {
		if geometry.Valid(g) {
			t.Errorf("%+v is valid", g)
		}
	}
}

// P10.1: the sizes of valid geometries.
func TestSizes(t *testing.T) {
	for _, g := range append(samples(), largest()) {
		all := places(g)
		if got := geometry.Size(g); got != len(all) {
			t.Errorf("Size(%+v) = %d, not %d", g, got, len(all))
		}
		if got := geometry.BandSize(g); got*g.Bands+g.Random != len(all) {
			t.Errorf("BandSize(%+v) = %d", g, got)
		}
	}
	if got := geometry.Size(largest()); got != 81920 {
		t.Errorf("Size of the largest geometry: %d", got)
	}
	if got := geometry.BandSize(largest()); got != 1024 {
		t.Errorf("BandSize of the largest geometry: %d", got)
	}
}

// P10.1, P1: with a geometry that is not valid, every function returns ErrArg or no value, also where the address or the place is out of range.
func TestInvalid(t *testing.T) {
	values := append(disktest.Beyond(3), 0, 1, 2, 5, 6, 28)
	for _, g := range invalid() {
		if geometry.Size(g) != 0 || geometry.BandSize(g) != 0 {
			t.Errorf("%+v: Size %d, BandSize %d", g, geometry.Size(g), geometry.BandSize(g))
		}
		for i, a := range values {
			if geometry.Random(g, a) {
				t.Errorf("Random(%+v, %d)", g, a)
			}
			if band, track, position, e := geometry.Locate(g, a); band != 0 || track != 0 || position != 0 || e != api.ErrArg {
				t.Errorf("Locate(%+v, %d) = %d, %d, %d, %d", g, a, band, track, position, e)
			}
			if got := geometry.Shadow(g, a); len(got) != 0 {
				t.Errorf("Shadow(%+v, %d) = %v", g, a, got)
			}
			track, position := values[(i+1)%len(values)], values[(i+2)%len(values)]
			for _, p := range [][3]int{{a, 0, 0}, {0, a, 0}, {0, 0, a}, {a, a, a}, {a, track, position}} {
				if got, e := geometry.Address(g, p[0], p[1], p[2]); got != 0 || e != api.ErrArg {
					t.Errorf("Address(%+v, %v) = %d, %d", g, p, got, e)
				}
			}
		}
	}
}

// checkPlaces compares Random, Locate and Address at all addresses with the list of all places.
func checkPlaces(t *testing.T, g api.Geometry) {
	t.Helper()
	for a, p := range places(g) {
		if got := geometry.Random(g, a); got != p.random {
			t.Fatalf("Random(%+v, %d) = %v", g, a, got)
		}
		band, track, position, e := geometry.Locate(g, a)
		if p.random {
			if band != 0 || track != 0 || position != 0 || e != api.ErrRange {
				t.Fatalf("Locate(%+v, %d) = %d, %d, %d, %d for a random sector", g, a, band, track, position, e)
			}
			continue
		}
		if got := (place{band: band, track: track, position: position}); got != p || e != api.OK {
			t.Fatalf("Locate(%+v, %d) = %v, %d, not %v", g, a, got, e, p)
		}
		if got, e := geometry.Address(g, p.band, p.track, p.position); got != a || e != api.OK {
			t.Fatalf("Address(%+v, %v) = %d, %d, not %d", g, p, got, e, a)
		}
	}
}

// P10.1, P10.2: every address is that of a random sector or of the next sector of the bands, and Locate and Address are inverse to each other.
func TestPlaces(t *testing.T) {
	for _, g := range append(samples(), largest()) {
		checkPlaces(t, g)
	}
}

// P10.1, P10.2: beyond the sectors there are no places.
func TestNoAddress(t *testing.T) {
	for _, g := range append(samples(), largest()) {
		for _, a := range disktest.Beyond(geometry.Size(g)) {
			if geometry.Random(g, a) {
				t.Fatalf("Random(%+v, %d)", g, a)
			}
			if band, track, position, e := geometry.Locate(g, a); band != 0 || track != 0 || position != 0 || e != api.ErrRange {
				t.Fatalf("Locate(%+v, %d) = %d, %d, %d, %d", g, a, band, track, position, e)
			}
			if got := geometry.Shadow(g, a); len(got) != 0 {
				t.Fatalf("Shadow(%+v, %d) = %v", g, a, got)
			}
		}
	}
}

// P10.1, P10.2: a band, a track or a position that does not exist has no address, also where the computed address would be that of another sector.
func TestNoPlace(t *testing.T) {
	for _, g := range append(samples(), largest()) {
		limits := [3]int{g.Bands, g.Tracks, g.Sectors}
		for i, limit := range limits {
			for _, n := range disktest.Beyond(limit) {
				for _, p := range [][3]int{{}, {g.Bands - 1, g.Tracks - 1, g.Sectors - 1}, {n, n, n}} {
					p[i] = n
					if got, e := geometry.Address(g, p[0], p[1], p[2]); got != 0 || e != api.ErrRange {
						t.Fatalf("Address(%+v, %v) = %d, %d", g, p, got, e)
					}
				}
			}
		}
	}
}

// P10.1: shadows are the lists that a search among all sectors finds.
func TestShadow(t *testing.T) {
	for _, g := range samples() {
		if geometry.Size(g) > 2000 {
			continue
		}
		all := places(g)
		for a := range all {
			if got, want := geometry.Shadow(g, a), shadow(g, all, a); !slices.Equal(got, want) {
				t.Fatalf("Shadow(%+v, %d) = %v, not %v", g, a, got, want)
			}
		}
	}
}

// P10.1: shadows in the largest geometry: on the first track, on the tracks near the last one, and of random sectors.
func TestShadowLargest(t *testing.T) {
	g := largest()
	for _, x := range []struct {
		a    int
		want []int
	}{
		{0, nil},
		{16383, nil},
		{16384, []int{16448, 16512, 16576}},
		{16384 + 11*64, []int{16384 + 12*64, 16384 + 13*64, 16384 + 14*64}},
		{16384 + 12*64 + 63, []int{16384 + 13*64 + 63, 16384 + 14*64 + 63, 16384 + 15*64 + 63}},
		{16384 + 13*64, []int{16384 + 14*64, 16384 + 15*64}},
		{16384 + 14*64 + 5, []int{16384 + 15*64 + 5}},
		{16384 + 15*64, nil},
		{16384 + 15*64 + 63, nil},
		{16384 + 16*64, []int{16384 + 17*64, 16384 + 18*64, 16384 + 19*64}},
		{81919, nil},
	} {
		if got := geometry.Shadow(g, x.a); !slices.Equal(got, x.want) {
			t.Errorf("Shadow(%d) = %v, not %v", x.a, got, x.want)
		}
	}
}

// P10.1: a shadow is new memory.
func TestShadowMemory(t *testing.T) {
	g := largest()
	first := geometry.Shadow(g, 20000)
	kept := slices.Clone(first)
	for i := range first[:cap(first)] {
		first[:cap(first)][i] = -1
	}
	if got := geometry.Shadow(g, 20000); !slices.Equal(got, kept) {
		t.Errorf("Shadow = %v after an earlier result was changed, not %v", got, kept)
	}
}

// P10.3: a shadow lies in the same band, at greater addresses, which increase; it has at most Overlap sectors, and none on the last track.
func TestShadowBand(t *testing.T) {
	for _, g := range append(samples(), largest()) {
		for a := range geometry.Size(g) {
			got := geometry.Shadow(g, a)
			band, track, _, e := geometry.Locate(g, a)
			if len(got) > g.Overlap || (e != api.OK || track == g.Tracks-1) && len(got) > 0 {
				t.Fatalf("Shadow(%+v, %d) = %v", g, a, got)
			}
			last := a
			for _, b := range got {
				if other, _, _, e := geometry.Locate(g, b); other != band || e != api.OK || b <= last {
					t.Fatalf("Shadow(%+v, %d) = %v", g, a, got)
				}
				last = b
			}
		}
	}
}

// P10.3: writing the sectors of a band in the order of their addresses never destroys a sector that was written; writing them again does, if tracks overlap.
func TestSequentialWriting(t *testing.T) {
	for _, g := range append(samples(), largest()) {
		written := make([]bool, geometry.Size(g))
		for a := range written {
			written[a] = true
			for _, b := range geometry.Shadow(g, a) {
				if written[b] {
					t.Fatalf("%+v: writing sector %d destroys sector %d", g, a, b)
				}
			}
		}
		destroyed := false
		for a := range written {
			for _, b := range geometry.Shadow(g, a) {
				destroyed = destroyed || written[b]
			}
		}
		if want := g.Overlap > 0 && g.Tracks > 1; destroyed != want {
			t.Fatalf("%+v: rewriting destroys sectors: %v", g, destroyed)
		}
	}
}
