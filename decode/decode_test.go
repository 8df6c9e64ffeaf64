package decode_test

import (
	"bytes"
	"math"
	"math/rand/v2"
	"slices"
	"testing"

	"tegula/api"
	"tegula/decode"
	"tegula/fieldtest"
)

// source yields arbitrary numbers that are always the same.
type source struct{ *rand.Rand }

func newSource() source { return source{rand.New(rand.NewPCG(4, 4))} }

func (s source) byte() byte { return byte(s.Uint32()) }

func (s source) blocks(n int) []api.Block { return fieldtest.Blocks(n, s.byte) }

func (s source) group(width int) []api.Block { return fieldtest.Group(width, s.byte) }

// others lists the numbers less than n for which left is false.
func others(n int, left func(int) bool) []int {
	var numbers []int
	for i := range n {
		if !left(i) {
			numbers = append(numbers, i)
		}
	}
	return numbers
}

// increasing lists the numbers less than n.
func increasing(n int) []int { return others(n, func(int) bool { return false }) }

// unitPiece is the element of a piece in the group whose data piece i is 1 and whose other data pieces are 0.
func unitPiece(width, piece, i int) byte {
	switch data := width - 3; {
	case piece >= data:
		return fieldtest.Coefficient(piece-data, i)
	case piece == i:
		return 1
	}
	return 0
}

// areWeights reports whether the weights yield piece to in the groups whose sums and multiples are all the others, and so in all groups. There are no others that do.
func areWeights(width int, from []int, to int, weights []byte) bool {
	if len(weights) != len(from) {
		return false
	}
	for i := range width - 3 {
		sum := unitPiece(width, to, i)
		for k, piece := range from {
			sum ^= fieldtest.Times(weights[k], unitPiece(width, piece, i))
		}
		if sum != 0 {
			return false
		}
	}
	return true
}

// P4.1: the weights for every choice of pieces of every width: those of the pieces left out, and those of a piece taken.
func TestWeights(t *testing.T) {
	for width := 4; width <= 16; width++ {
		fieldtest.Triples(width, func(a, b, c int) {
			from := others(width, func(i int) bool { return i == a || i == b || i == c })
			given := slices.Clone(from)
			for _, to := range []int{a, b, c, from[(a+b+c)%len(from)]} {
				w, e := decode.Weights(width, given, to)
				if e != api.OK || !areWeights(width, from, to, w) {
					t.Errorf("Weights(%d, %v, %d) = %v, %d", width, from, to, w, e)
				}
				if !slices.Equal(given, from) {
					t.Fatalf("Weights changed its argument %v to %v", from, given)
				}
			}
		})
	}
}

// P4.1: the examples; a piece that is taken has the weight 1, and the others 0.
func TestWeightsOfExamples(t *testing.T) {
	for _, c := range []struct {
		width int
		from  []int
		to    int
		want  []byte
	}{
		{5, []int{1, 2}, 0, []byte{1, 1}},
		{5, []int{1, 3}, 0, []byte{2, 1}},
		{4, []int{2}, 2, []byte{1}},
		{4, []int{3}, 0, []byte{1}},
		{8, []int{0, 2, 3, 5, 7}, 5, []byte{0, 0, 0, 1, 0}},
		{8, []int{0, 2, 3, 5, 7}, 7, []byte{0, 0, 0, 0, 1}},
		{8, []int{0, 1, 2, 3, 4}, 6, []byte{1, 2, 4, 8, 16}},
	} {
		if w, e := decode.Weights(c.width, c.from, c.to); e != api.OK || !bytes.Equal(w, c.want) {
			t.Errorf("Weights(%d, %v, %d) = %v, %d", c.width, c.from, c.to, w, e)
		}
	}
}

// P4.1: widths, choices and pieces that are not valid; P1: the result is zero with an error.
func TestWeightsErrors(t *testing.T) {
	for _, c := range []struct {
		width int
		from  []int
		to    int
	}{
		{math.MinInt, nil, 0}, {-1, nil, 0}, {0, nil, 0}, {1, nil, 0}, {2, nil, 0}, {3, nil, 0}, {3, []int{}, 2},
		{17, increasing(14), 0}, {17, increasing(13), 15}, {math.MaxInt, increasing(13), 0},
		{5, nil, 0}, {5, []int{0}, 1}, {5, []int{0, 1, 2}, 3}, {5, increasing(5), 0}, {16, increasing(12), 0}, {16, increasing(14), 0},
		{5, []int{1, 1}, 0}, {5, []int{2, 1}, 0}, {5, []int{4, 0}, 0}, {6, []int{0, 2, 2}, 1}, {6, []int{0, 0, 2}, 1}, {6, []int{1, 3, 2}, 0},
		{5, []int{-1, 1}, 0}, {5, []int{math.MinInt, 1}, 0}, {4, []int{-1}, 0}, {4, []int{4}, 0},
		{5, []int{1, 5}, 0}, {5, []int{1, math.MaxInt}, 0}, {5, []int{5, 6}, 0}, {5, []int{0, 256}, 1},
		{5, []int{0, 1}, -1}, {5, []int{0, 1}, 5}, {5, []int{0, 1}, math.MinInt}, {5, []int{0, 1}, math.MaxInt}, {16, increasing(13), 16}, {4, []int{0}, 4},
	} {
		if w, e := decode.Weights(c.width, c.from, c.to); w != nil || e != api.ErrArg {
			t.Errorf("Weights(%d, %v, %d) = %v, %d", c.width, c.from, c.to, w, e)
		}
	}
}

// P1: weights are new memory.
func TestWeightsAreNew(t *testing.T) {
	first, _ := decode.Weights(8, increasing(5), 6)
	clear(first[:cap(first)])
	again, e := decode.Weights(8, increasing(5), 6)
	if e != api.OK || !bytes.Equal(again, []byte{1, 2, 4, 8, 16}) {
		t.Errorf("later weights changed with earlier ones: %v, %d", again, e)
	}
}

// P4.1: linear combinations of any number of blocks.
func TestCombine(t *testing.T) {
	s := newSource()
	for n := range 100 {
		blocks := s.blocks(n)
		weights := make([]byte, n)
		for i := range weights {
			weights[i] = s.byte()
		}
		givenBlocks, givenWeights := slices.Clone(blocks), bytes.Clone(weights)
		sum, e := decode.Combine(givenWeights, givenBlocks)
		if want := fieldtest.Combination(weights, blocks); e != api.OK || sum != want {
			t.Errorf("Combine(%v, %v) = %v, %d, not %v", weights, blocks, sum, e, want)
		}
		if !slices.Equal(givenBlocks, blocks) || !bytes.Equal(givenWeights, weights) {
			t.Errorf("Combine changed its arguments %v, %v to %v, %v", weights, blocks, givenWeights, givenBlocks)
		}
	}
	for _, none := range [][]byte{nil, {}} {
		if sum, e := decode.Combine(none, nil); e != api.OK || sum != (api.Block{}) {
			t.Errorf("Combine of nothing = %v, %d", sum, e)
		}
		if sum, e := decode.Combine(none, []api.Block{}); e != api.OK || sum != (api.Block{}) {
			t.Errorf("Combine of nothing = %v, %d", sum, e)
		}
	}
}

// P4.1: numbers of weights and blocks that differ; P1: the result is zero with an error.
func TestCombineErrors(t *testing.T) {
	for weights := range 6 {
		for blocks := range 6 {
			sum, e := decode.Combine(bytes.Repeat([]byte{1}, weights), slices.Repeat([]api.Block{{1, 2}}, blocks))
			if weights != blocks && (sum != (api.Block{}) || e != api.ErrArg) {
				t.Errorf("Combine of %d weights and %d blocks = %v, %d", weights, blocks, sum, e)
			}
		}
	}
}

// marks returns width marks, set for some pieces.
func marks(width int, set ...int) []bool {
	bad := make([]bool, width)
	for _, i := range set {
		bad[i] = true
	}
	return bad
}

// wantDecoded is what Decode is to return, from the weights.
func wantDecoded(t *testing.T, pieces []api.Block, bad []bool) []api.Block {
	width := len(pieces)
	from := others(width, func(i int) bool { return bad[i] })[:width-3]
	var good []api.Block
	for _, i := range from {
		good = append(good, pieces[i])
	}
	want := slices.Clone(pieces)
	for i := range want {
		if bad[i] {
			w, e := decode.Weights(width, from, i)
			if e != api.OK {
				t.Fatalf("Weights(%d, %v, %d): %d", width, from, i, e)
			}
			want[i] = fieldtest.Combination(w, good)
		}
	}
	return want
}

// P4.2: pieces that are no consistent group show which ones are used, and that those that are not bad are returned as they are. All sets of at most three bad pieces are tried.
func TestDecode(t *testing.T) {
	s := newSource()
	for width := 4; width <= 16; width++ {
		pieces := s.blocks(width)
		fieldtest.Triples(width, func(a, b, c int) {
			for _, set := range [][]int{{a, b, c}, {a, b}, {b, c}, {a}, {c}, {}} {
				bad := marks(width, set...)
				givenPieces, givenBad := slices.Clone(pieces), slices.Clone(bad)
				l, e := decode.Decode(givenPieces, givenBad)
				if want := wantDecoded(t, pieces, bad); e != api.OK || !slices.Equal(l, want) {
					t.Fatalf("Decode(%v, %v) = %v, %d, not %v", pieces, bad, l, e, want)
				}
				if !slices.Equal(givenPieces, pieces) || !slices.Equal(givenBad, bad) {
					t.Fatalf("Decode changed its arguments %v, %v to %v, %v", pieces, bad, givenPieces, givenBad)
				}
			}
		})
	}
}

// P1: the pieces are new memory, even if none is bad.
func TestDecodeIsNew(t *testing.T) {
	for _, bad := range [][]bool{marks(6), marks(6, 1, 3)} {
		pieces := newSource().group(6)
		before := slices.Clone(pieces)
		l, e := decode.Decode(pieces, bad)
		if e != api.OK || !slices.Equal(l, before) {
			t.Fatalf("Decode(%v, %v) = %v, %d", pieces, bad, l, e)
		}
		clear(l)
		if !slices.Equal(pieces, before) {
			t.Errorf("the result of Decode shares memory with its argument")
		}
	}
}

// P4.2: lengths that are not valid, also with more than three bad pieces; P1: the result is zero with an error.
func TestDecodeErrors(t *testing.T) {
	s := newSource()
	check := func(pieces, marked, set int, want api.Errno) {
		t.Helper()
		bad := make([]bool, marked)
		for i := range set {
			bad[marked-1-i] = true
		}
		l, e := decode.Decode(s.blocks(pieces), bad)
		if l != nil || e != want {
			t.Errorf("Decode of %d pieces with %d marks, of which %d are set = %v, %d, not %d", pieces, marked, set, l, e, want)
		}
	}
	for _, n := range []int{0, 1, 2, 3, 17, 18, 32, 64, 100} {
		for _, set := range []int{0, min(3, n), n} {
			check(n, n, set, api.ErrArg)
		}
	}
	for width := 4; width <= 16; width++ {
		for _, marked := range []int{0, 1, width - 1, width + 1, 2 * width} {
			check(width, marked, 0, api.ErrArg)
			check(width, marked, marked, api.ErrArg)
		}
		for set := 4; set <= width; set++ {
			check(width, width, set, api.ErrLost)
		}
	}
	if l, e := decode.Decode(nil, nil); l != nil || e != api.ErrArg {
		t.Errorf("Decode(nil, nil) = %v, %d", l, e)
	}
}

// P4.3: the syndromes of any pieces.
func TestSyndromes(t *testing.T) {
	r := newSource()
	for width := 4; width <= 16; width++ {
		for range 20 {
			pieces := r.blocks(width)
			before := slices.Clone(pieces)
			s, e := decode.Syndromes(pieces)
			want := fieldtest.Sum(fieldtest.Parity(before[:width-3]), before[width-3:])
			if e != api.OK || !slices.Equal(s, want) {
				t.Errorf("Syndromes(%v) = %v, %d, not %v", before, s, e, want)
			}
			clear(s)
			if !slices.Equal(pieces, before) {
				t.Errorf("Syndromes changed its argument %v to %v, or its result shares memory with it", before, pieces)
			}
		}
		if s, e := decode.Syndromes(r.group(width)); e != api.OK || !slices.Equal(s, make([]api.Block, 3)) {
			t.Errorf("the syndromes of a consistent group are %v, %d", s, e)
		}
	}
}

// P4.3: a single byte of a single piece meets its coefficients, at every place.
func TestSyndromesOfUnits(t *testing.T) {
	for piece := range 16 {
		for k := range 8 {
			pieces := make([]api.Block, 16)
			pieces[piece][k] = 1
			want := make([]api.Block, 3)
			for j := range want {
				switch {
				case piece < 13:
					want[j][k] = fieldtest.Coefficient(j, piece)
				case piece == 13+j:
					want[j][k] = 1
				}
			}
			if s, e := decode.Syndromes(pieces); e != api.OK || !slices.Equal(s, want) {
				t.Errorf("byte %d of piece %d: %v, %d, not %v", k, piece, s, e, want)
			}
		}
	}
}

// P4.3, P4.4: numbers of pieces that no group has; P1: the result is zero with an error.
func TestErrorsOfLength(t *testing.T) {
	r := newSource()
	for _, n := range []int{0, 1, 2, 3, 17, 18, 19, 32, 256} {
		for _, pieces := range [][]api.Block{r.blocks(n), make([]api.Block, n)} {
			if s, e := decode.Syndromes(pieces); s != nil || e != api.ErrArg {
				t.Errorf("Syndromes of %d pieces = %v, %d", n, s, e)
			}
			if at, e := decode.Locate(pieces); at != 0 || e != api.ErrArg {
				t.Errorf("Locate in %d pieces = %d, %d", n, at, e)
			}
		}
	}
	if s, e := decode.Syndromes(nil); s != nil || e != api.ErrArg {
		t.Errorf("Syndromes(nil) = %v, %d", s, e)
	}
	if at, e := decode.Locate(nil); at != 0 || e != api.ErrArg {
		t.Errorf("Locate(nil) = %d, %d", at, e)
	}
}

// isConsistent is parity.Check by the definition.
func isConsistent(pieces []api.Block) bool {
	data := len(pieces) - 3
	return slices.Equal(fieldtest.Parity(pieces[:data]), pieces[data:])
}

// canMend reports whether other contents of a piece make the group consistent. Those of a data piece are determined by the first parity piece.
func canMend(pieces []api.Block, piece int) bool {
	data := len(pieces) - 3
	mended := slices.Clone(pieces)
	if want := fieldtest.Parity(pieces[:data]); piece >= data {
		mended[piece] = want[piece-data]
	} else {
		change := fieldtest.Sum(want[:1], pieces[data:])
		mended[piece] = fieldtest.Sum(change, pieces[piece:])[0]
	}
	return isConsistent(mended)
}

// wantLocated is what Locate is to return, by trying all pieces.
func wantLocated(pieces []api.Block) (int, api.Errno) {
	if isConsistent(pieces) {
		return 0, api.ErrNone
	}
	for piece := range pieces {
		if canMend(pieces, piece) {
			return piece, api.OK
		}
	}
	return 0, api.ErrLost
}

// withSyndromes returns a group whose syndromes are those that are given.
func withSyndromes(group, syndromes []api.Block) []api.Block {
	data := len(group) - 3
	return append(slices.Clone(group[:data]), fieldtest.Sum(group[data:], syndromes)...)
}

func checkLocate(t *testing.T, pieces []api.Block, want int, wantErr api.Errno) {
	t.Helper()
	before := slices.Clone(pieces)
	if at, e := decode.Locate(pieces); at != want || e != wantErr {
		t.Errorf("Locate(%v) = %d, %d, not %d, %d", before, at, e, want, wantErr)
	}
	if !slices.Equal(pieces, before) {
		t.Errorf("Locate changed its argument %v to %v", before, pieces)
	}
}

// P4.4: syndromes of one byte, those of every piece and of none among them: also those that a data piece would have if the group had more of them.
func TestLocateBySyndromes(t *testing.T) {
	r := newSource()
	elements := []byte{0, 1, 2, 3, 4, 16, 29}
	for width := 4; width <= 16; width++ {
		group := r.group(width)
		for _, a := range elements {
			for _, b := range elements {
				for _, c := range elements {
					pieces := withSyndromes(group, []api.Block{{3: a}, {3: b}, {3: c}})
					want, wantErr := wantLocated(pieces)
					checkLocate(t, pieces, want, wantErr)
				}
			}
		}
		for i := range 255 {
			c := fieldtest.Coefficient(1, i)
			pieces := withSyndromes(group, []api.Block{{7}, {fieldtest.Times(7, c)}, {fieldtest.Times(7, fieldtest.Times(c, c))}})
			if i < width-3 {
				checkLocate(t, pieces, i, api.OK)
			} else {
				checkLocate(t, pieces, 0, api.ErrLost)
			}
		}
	}
}

// P4.4: all bytes have to agree on the piece.
func TestLocateByAllBytes(t *testing.T) {
	r := newSource()
	for width := 4; width <= 16; width++ {
		for a := range width {
			for b := range width {
				pieces := r.group(width)
				pieces[a][0] ^= 5
				pieces[b][7] ^= 6
				if a == b {
					checkLocate(t, pieces, a, api.OK)
				} else {
					checkLocate(t, pieces, 0, api.ErrLost)
				}
			}
		}
	}
}

// P4.4: any pieces, and groups of which three pieces were changed.
func TestLocateAmongOthers(t *testing.T) {
	r := newSource()
	for width := 4; width <= 16; width++ {
		for range 20 {
			pieces := r.blocks(width)
			want, wantErr := wantLocated(pieces)
			checkLocate(t, pieces, want, wantErr)
		}
		fieldtest.Triples(width, func(a, b, c int) {
			pieces := r.group(width)
			for _, i := range []int{a, b, c} {
				pieces[i][1] ^= byte(1 + r.IntN(2))
			}
			want, wantErr := wantLocated(pieces)
			checkLocate(t, pieces, want, wantErr)
		})
	}
	// Three of four equal pieces make the fourth one the wrong one.
	checkLocate(t, []api.Block{{1}, {2}, {2}, {2}}, 0, api.OK)
	checkLocate(t, []api.Block{{2}, {2}, {2}, {1}}, 3, api.OK)
	checkLocate(t, []api.Block{{1}, {1}, {2}, {2}}, 0, api.ErrLost)
	checkLocate(t, []api.Block{{1}, {1}, {1}, {1}}, 0, api.ErrNone)
}

// P4.5: at most three bad pieces of a consistent group are recovered, whatever they contain.
func TestRecovery(t *testing.T) {
	r := newSource()
	for width := 4; width <= 16; width++ {
		group := r.group(width)
		fieldtest.Triples(width, func(a, b, c int) {
			for _, set := range [][]int{{a, b, c}, {b, c}, {a}, {}} {
				pieces := slices.Clone(group)
				for _, i := range set {
					pieces[i] = r.blocks(1)[0]
				}
				if l, e := decode.Decode(pieces, marks(width, set...)); e != api.OK || !slices.Equal(l, group) {
					t.Fatalf("Decode(%v) without %v = %v, %d, not %v", pieces, set, l, e, group)
				}
			}
		})
	}
	l, e := decode.Decode([]api.Block{{99}, {77}, {6}, {9}, {55}}, marks(5, 0, 1, 4))
	if e != api.OK || !slices.Equal(l, []api.Block{{3}, {5}, {6}, {9}, {23}}) {
		t.Errorf("the example: %v, %d", l, e)
	}
}

// P4.5: one piece that was changed is located, and two are not.
func TestLocation(t *testing.T) {
	r := newSource()
	for width := 4; width <= 16; width++ {
		checkLocate(t, r.group(width), 0, api.ErrNone)
		for a := range width {
			one := r.group(width)
			one[a][r.IntN(8)] ^= byte(1 + r.IntN(255))
			checkLocate(t, one, a, api.OK)
			for b := range width {
				if b == a {
					continue
				}
				two := slices.Clone(one)
				two[b][r.IntN(8)] ^= byte(1 + r.IntN(255))
				checkLocate(t, two, 0, api.ErrLost)
				// The same change of both pieces makes the first syndrome 0 if both are data pieces.
				same := r.group(width)
				for _, i := range []int{a, b} {
					same[i] = fieldtest.Sum(same[i:i+1], []api.Block{{1, 2, 3}})[0]
				}
				checkLocate(t, same, 0, api.ErrLost)
			}
		}
	}
	checkLocate(t, []api.Block{{3}, {4}, {6}, {9}, {23}}, 1, api.OK)
}
