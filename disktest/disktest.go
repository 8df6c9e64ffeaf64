// Package disktest knows the sectors of a disk in another way than packages geometry and media, so that the tests of the layers above them do not rely on these, and makes test data for them. Only tests use it.
package disktest

import (
	"math"
	"strconv"

	"tegula/api"
)

// Numbers is a generator of test data.
type Numbers uint64

// Next returns a number.
func (n *Numbers) Next() uint64 {
	*n = *n*6364136223846793005 + 1442695040888963407
	return uint64(*n) ^ uint64(*n)>>29
}

// Between returns a number from least to most.
func (n *Numbers) Between(least, most int) int {
	return least + int(n.Next()>>1%uint64(most-least+1))
}

// Bytes returns bytes for a sector.
func (n *Numbers) Bytes() []byte {
	b := make([]byte, n.Between(0, api.MaxSector))
	for i := range b {
		b[i] = byte(n.Next())
	}
	return b
}

// Geometry returns a valid geometry with few sectors.
func (n *Numbers) Geometry() api.Geometry {
	return api.Geometry{Random: n.Between(0, 4), Bands: n.Between(1, 4), Tracks: n.Between(1, 7), Sectors: n.Between(1, 5), Overlap: n.Between(0, 3)}
}

// Geometries lists valid geometries: of all overlaps, with few and with many tracks, and others.
func Geometries() []api.Geometry {
	all := []api.Geometry{
		{Bands: 1, Tracks: 1, Sectors: 1},
		{Bands: 1, Tracks: 1, Sectors: 1, Overlap: 3},
		{Random: 1, Bands: 1, Tracks: 1, Sectors: 4, Overlap: 1},
		{Random: 3, Bands: 2, Tracks: 16, Sectors: 1, Overlap: 3},
		{Bands: 1, Tracks: 2, Sectors: 64, Overlap: 2},
		{Random: 40, Bands: 8, Tracks: 1, Sectors: 1, Overlap: 2},
	}
	for overlap := range api.MaxOverlap + 1 {
		all = append(all, api.Geometry{Random: 2, Bands: 3, Tracks: 5, Sectors: 2, Overlap: overlap})
	}
	data := Numbers(11)
	for range 20 {
		all = append(all, data.Geometry())
	}
	return all
}

// Beyond lists numbers that are no index of n things.
func Beyond(n int) []int {
	return []int{math.MinInt, math.MinInt32, -n - 1, -n, -2, -1, n, n + 1, 2*n + 1, math.MaxInt32, 1 << 32, 1 << 62, math.MaxInt - 1, math.MaxInt}
}

// Sector is what is known about a sector. The band of a random sector is -1.
type Sector struct {
	Band, Track, Position int
	State                 int
	Bytes                 string
}

// Surface is what is known about the sectors of a disk, in the order of their addresses.
type Surface []Sector

// Blank lists the blank sectors of a valid geometry.
func Blank(g api.Geometry) Surface {
	var s Surface
	for range g.Random {
		s = append(s, Sector{Band: -1})
	}
	for band := range g.Bands {
		for track := range g.Tracks {
			for position := range g.Sectors {
				s = append(s, Sector{Band: band, Track: track, Position: position})
			}
		}
	}
	return s
}

// Write writes sector a, and searches all sectors for those that this destroys.
func (s Surface) Write(a, overlap int, b []byte) {
	s[a].State, s[a].Bytes = api.SectorWritten, string(b)
	from := s[a]
	for i, to := range s {
		if from.Band >= 0 && to.Band == from.Band && to.Position == from.Position && to.Track > from.Track && to.Track-from.Track <= overlap {
			s[i].State, s[i].Bytes = api.SectorDestroyed, ""
		}
	}
}

// Erase makes the sectors of a band blank.
func (s Surface) Erase(band int) {
	for i := range s {
		if s[i].Band == band {
			s[i].State, s[i].Bytes = api.SectorBlank, ""
		}
	}
}

// Readable is something with sectors, which may be in error.
type Readable interface {
	State(a int) int
	Read(a int) ([]byte, api.Errno)
}

// Difference says which sector of m is not as it is known to be, or returns an empty string.
func (s Surface) Difference(m Readable) string {
	for a, want := range s {
		e := api.OK
		if want.State != api.SectorWritten {
			e = api.ErrMedia
		}
		state := m.State(a)
		b, got := m.Read(a)
		if state != want.State || got != e || string(b) != want.Bytes {
			return "sector " + strconv.Itoa(a) + ": " + text(state, b, got) + "; want " + text(want.State, []byte(want.Bytes), e)
		}
	}
	return ""
}

func text(state int, b []byte, e api.Errno) string {
	return "state " + strconv.Itoa(state) + ", bytes " + strconv.Quote(string(b)) + ", error " + strconv.Itoa(int(e))
}
