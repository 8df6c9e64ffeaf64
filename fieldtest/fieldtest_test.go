package fieldtest_test

import (
	"testing"

	"tegula/fieldtest"
)

// The values of chapter 1: they anchor what the other tests rely on.
func TestValues(t *testing.T) {
	for _, c := range []struct{ a, b, want byte }{{2, 128, 29}, {3, 7, 9}, {2, 142, 1}, {0, 255, 0}, {255, 1, 255}} {
		if p := fieldtest.Times(c.a, c.b); p != c.want {
			t.Errorf("Times(%d, %d) = %d, not %d", c.a, c.b, p, c.want)
		}
	}
	for _, c := range []struct {
		a    byte
		n    int
		want byte
	}{{0, 0, 1}, {7, 0, 1}, {0, 3, 0}, {2, 7, 128}, {2, 8, 29}, {2, 255, 1}} {
		if p := fieldtest.Power(c.a, c.n); p != c.want {
			t.Errorf("Power(%d, %d) = %d, not %d", c.a, c.n, p, c.want)
		}
	}
}
