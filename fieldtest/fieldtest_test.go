package fieldtest_test

import (
	"slices"
	"testing"

	"tegula/api"
	"tegula/fieldtest"
)

// The values of chapter 1 and a few more: they anchor what the other tests rely on.
func TestValues(t *testing.T) {
	for _, c := range []struct{ a, b, want byte }{{2, 128, 29}, {3, 7, 9}, {2, 142, 1}, {0, 255, 0}, {255, 1, 255}} {
		if p := fieldtest.Times(c.a, c.b); p != c.want {
			t.Errorf("Times(%d, %d) = %d, not %d", c.a, c.b, p, c.want)
		}
	}
	for _, c := range []struct {
		a    byte
		n    int
		want byte
	}{{0, 0, 1}, {7, 0, 1}, {0, 3, 0}, {2, 7, 128}, {2, 8, 29}, {2, 255, 1}} {
		if p := fieldtest.Power(c.a, c.n); p != c.want {
			t.Errorf("Power(%d, %d) = %d, not %d", c.a, c.n, p, c.want)
		}
	}
}

// The example of chapter 3, with a second byte that the definition yields by hand.
func TestGroups(t *testing.T) {
	contents := []byte{3, 1, 0, 0, 0, 0, 0, 0, 5, 128}
	next := func() byte {
		if len(contents) == 0 {
			return 0
		}
		b := contents[0]
		contents = contents[1:]
		return b
	}
	want := []api.Block{{3, 1}, {5, 128}, {6, 129}, {9, 28}, {23, 59}}
	if group := fieldtest.Group(5, next); !slices.Equal(group, want) {
		t.Errorf("the group is %v, not %v", group, want)
	}
	if c := fieldtest.Combination([]byte{2, 1}, want[:2]); c != (api.Block{3, 130}) {
		t.Errorf("the combination is %v", c)
	}
}

// All triples are visited, each of them once.
func TestTriples(t *testing.T) {
	var all [][3]int
	fieldtest.Triples(4, func(a, b, c int) { all = append(all, [3]int{a, b, c}) })
	want := [][3]int{{0, 1, 2}, {0, 1, 3}, {0, 2, 3}, {1, 2, 3}}
	if !slices.Equal(all, want) {
		t.Errorf("the triples are %v, not %v", all, want)
	}
}
