package disktest_test

import (
	"testing"

	"tegula/api"
	"tegula/disktest"
)

// image is something with sectors that returns what a surface says, but for one error.
type image struct {
	sectors disktest.Surface
	wrong   int
}

func (m image) State(a int) int { return m.sectors[a].State }

func (m image) Read(a int) ([]byte, api.Errno) {
	e := api.OK
	if m.sectors[a].State != api.SectorWritten {
		e = api.ErrMedia
	}
	if a == m.wrong {
		e = api.ErrRange
	}
	return []byte(m.sectors[a].Bytes), e
}

// states returns the states of all sectors.
func states(s disktest.Surface) string {
	text := ""
	for _, x := range s {
		text += string("-wd"[x.State])
	}
	return text
}

// The example of chapter 11, an overlap of 2 in the second of two bands, a random sector and an erasure: they anchor what the other tests rely on.
func TestSurface(t *testing.T) {
	s := disktest.Blank(api.Geometry{Bands: 1, Tracks: 2, Sectors: 2, Overlap: 1})
	s.Write(2, 1, []byte("two"))
	s.Write(0, 1, []byte("zero"))
	if got := states(s); got != "w-d-" || s[0].Bytes != "zero" || s[2].Bytes != "" {
		t.Errorf("the example: %s, %v", got, s)
	}
	s = disktest.Blank(api.Geometry{Random: 1, Bands: 2, Tracks: 4, Sectors: 2, Overlap: 2})
	for a := range s {
		s.Write(a, 2, []byte{byte(a)})
	}
	s.Write(0, 2, nil)
	s.Write(9, 2, nil)
	if got := states(s); got != "wwwwwwwwwwwdwdwww" {
		t.Errorf("after the writes: %s", got)
	}
	s.Erase(0)
	if got := states(s); got != "w--------wwdwdwww" || s[1].Bytes != "" || s[10].Bytes != "\n" {
		t.Errorf("after the erasure: %s, %v", got, s)
	}
}

// A difference in the state, the bytes or the error of any sector is noticed.
func TestDifference(t *testing.T) {
	surface := func() disktest.Surface {
		s := disktest.Blank(api.Geometry{Bands: 1, Tracks: 3, Sectors: 1, Overlap: 1})
		s.Write(1, 1, []byte("a"))
		return s
	}
	s := surface()
	if d := s.Difference(image{surface(), -1}); d != "" {
		t.Error(d)
	}
	for a := range s {
		other := surface()
		other[a].State = (other[a].State + 1) % 3
		if s.Difference(image{other, -1}) == "" {
			t.Errorf("state of sector %d", a)
		}
		other = surface()
		other[a].Bytes += "b"
		if s.Difference(image{other, -1}) == "" {
			t.Errorf("bytes of sector %d", a)
		}
		if s.Difference(image{surface(), a}) == "" {
			t.Errorf("error of sector %d", a)
		}
	}
}

// Numbers stay within their bounds and reach them.
func TestBetween(t *testing.T) {
	data := disktest.Numbers(1)
	count := map[int]int{}
	for range 1000 {
		count[data.Between(-1, 2)]++
	}
	if len(count) != 4 || min(count[-1], count[0], count[1], count[2]) < 100 {
		t.Errorf("the numbers from -1 to 2: %v", count)
	}
}
