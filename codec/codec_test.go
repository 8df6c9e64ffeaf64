package codec_test

import (
	"bytes"
	"encoding/binary"
	"fmt"
	"math"
	"testing"

	"tegula/api"
	"tegula/codec"
)

// numbers is a generator of test data.
type numbers uint64

func (n *numbers) next() uint64 {
	*n = *n*6364136223846793005 + 1442695040888963407
	return uint64(*n) ^ uint64(*n)>>29
}

func (n *numbers) below(limit int) int { return int(n.next() >> 1 % uint64(limit)) }

func (n *numbers) bytes(length int) []byte {
	b := make([]byte, length)
	for i := range b {
		b[i] = byte(n.next() >> 32)
	}
	return b
}

// value returns a number with any number of digits.
func (n *numbers) value() uint64 { return n.next() >> n.below(64) }

// edges returns the numbers around the powers of 2, which include the first and last ones of every number of groups.
func edges() []uint64 {
	var all []uint64
	for k := range 64 {
		p := uint64(1) << k
		all = append(all, p-2, p-1, p, p+1, -p, ^p)
	}
	return append(all, math.MaxUint64)
}

// read holds the results of one read: a number, or bytes.
type read struct {
	n uint64
	b string
	e api.Errno
}

func (x read) String() string { return fmt.Sprintf("%d %q error %d", x.n, x.b, x.e) }

// kind is one of the methods that read, with the encoding of its values.
type kind struct {
	name   string
	read   func(r *codec.Reader) read
	encode func(x read) []byte
}

func kinds() []kind {
	return []kind{
		{"Uint", func(r *codec.Reader) read {
			n, e := r.Uint()
			return read{n: n, e: e}
		}, func(x read) []byte { return codec.AppendUint(nil, x.n) }},
		{"Int", func(r *codec.Reader) read {
			n, e := r.Int()
			return read{n: uint64(n), e: e}
		}, func(x read) []byte { return codec.AppendInt(nil, int(x.n)) }},
		{"Count", func(r *codec.Reader) read {
			n, e := r.Count(math.MaxInt)
			return read{n: uint64(n), e: e}
		}, func(x read) []byte { return codec.AppendUint(nil, x.n) }},
		{"Bytes", func(r *codec.Reader) read {
			b, e := r.Bytes()
			return read{b: string(b), e: e}
		}, func(x read) []byte { return codec.AppendBytes(nil, []byte(x.b)) }},
		{"Block", func(r *codec.Reader) read {
			b, e := r.Block()
			if b == (api.Block{}) && e != api.OK {
				return read{e: e}
			}
			return read{b: string(b[:]), e: e}
		}, func(x read) []byte { return codec.AppendBlock(nil, api.Block([]byte(x.b))) }},
	}
}

// reference returns what a method reads from the beginning of bytes, and the number of bytes that it consumes, computed with package encoding/binary.
func reference(name string, b []byte) (read, int) {
	malformed := read{e: api.ErrForm}
	if name == "Block" {
		if len(b) < 8 {
			return malformed, 0
		}
		return read{b: string(b[:8])}, 8
	}
	n, size := binary.Uvarint(b)
	if size <= 0 || !bytes.Equal(binary.AppendUvarint(nil, n), b[:size]) {
		return malformed, 0
	}
	switch name {
	case "Int":
		x, _ := binary.Varint(b)
		return read{n: uint64(x)}, size
	case "Count":
		if n > math.MaxInt {
			return malformed, 0
		}
	case "Bytes":
		if n > uint64(len(b)-size) {
			return malformed, 0
		}
		return read{b: string(b[size : size+int(n)])}, size + int(n)
	}
	return read{n: n}, size
}

// check compares a read with the reference, the consumed bytes with the encoding of the value, and tries that an error is remembered.
func check(t *testing.T, k kind, b []byte) {
	t.Helper()
	r := codec.New(b)
	want, size := reference(k.name, b)
	got := k.read(r)
	if got != want {
		t.Fatalf("%s of % x = %v, not %v", k.name, b, got, want)
	}
	if want.e != api.OK {
		checkFailed(t, r)
		return
	}
	if r.Left() != len(b)-size {
		t.Fatalf("%s of % x leaves %d bytes, not %d", k.name, b, r.Left(), len(b)-size)
	}
	if !bytes.Equal(k.encode(got), b[:size]) {
		t.Fatalf("%s of % x is not the only encoding of %v", k.name, b, got)
	}
	if done := r.Done(); (done == api.OK) != (size == len(b)) || done != api.OK && done != api.ErrForm {
		t.Fatalf("Done behind %s of % x = %d", k.name, b, done)
	}
}

// checkFailed tries every method of a reader on which an error occurred.
func checkFailed(t *testing.T, r *codec.Reader) {
	t.Helper()
	for range 2 {
		if r.Left() != 0 || r.Done() != api.ErrForm {
			t.Fatalf("Left and Done after an error: %d, %d", r.Left(), r.Done())
		}
		for _, k := range kinds() {
			if got := k.read(r); got != (read{e: api.ErrForm}) {
				t.Fatalf("%s after an error: %v", k.name, got)
			}
		}
		if n, e := r.Count(0); n != 0 || e != api.ErrForm {
			t.Fatalf("Count(0) after an error: %d, %d", n, e)
		}
	}
}

// P9.1: the examples.
func TestExamples(t *testing.T) {
	for _, x := range []struct {
		got  []byte
		want string
	}{
		{codec.AppendUint(nil, 300), "\xac\x02"},
		{codec.AppendUint(nil, 0), "\x00"},
		{codec.AppendInt(nil, -1), "\x01"},
		{codec.AppendInt(nil, 1), "\x02"},
		{codec.AppendInt(nil, 0), "\x00"},
		{codec.AppendBytes(nil, []byte{7, 8}), "\x02\x07\x08"},
		{codec.AppendBytes(nil, nil), "\x00"},
		{codec.AppendBlock(nil, api.Block{1, 2, 3, 4, 5, 6, 7, 200}), "\x01\x02\x03\x04\x05\x06\x07\xc8"},
	} {
		if string(x.got) != x.want {
			t.Errorf("% x, not % x", x.got, x.want)
		}
	}
	r := codec.New([]byte{128, 0})
	if n, e := r.Uint(); n != 0 || e != api.ErrForm {
		t.Errorf("Uint of 128 0 = %d, %d", n, e)
	}
}

// P9.1 and P9.2: natural numbers of all sizes have the specified bytes, behind any others, and are read again.
func TestUint(t *testing.T) {
	data := numbers(1)
	all := edges()
	for n := range uint64(1 << 15) {
		all = append(all, n, data.value())
	}
	for i, n := range all {
		before := data.bytes(i % 5)
		got := codec.AppendUint(before, n)
		if want := binary.AppendUvarint(bytes.Clone(before), n); !bytes.Equal(got, want) {
			t.Fatalf("AppendUint(% x, %d) = % x, not % x", before, n, got, want)
		}
		r := codec.New(got[len(before):])
		if x, e := r.Uint(); x != n || e != api.OK || r.Done() != api.OK {
			t.Fatalf("Uint = %d, %d, not %d", x, e, n)
		}
	}
}

// P9.1 and P9.2: integers of all sizes and both signs.
func TestInt(t *testing.T) {
	data := numbers(2)
	all := []int{math.MinInt, math.MinInt + 1, math.MaxInt, math.MaxInt - 1}
	for _, n := range edges() {
		all = append(all, int(n), -int(n))
	}
	for n := range 1 << 14 {
		all = append(all, n, -n, int(data.value()), -int(data.value()))
	}
	for i, n := range all {
		before := data.bytes(i % 5)
		got := codec.AppendInt(before, n)
		if want := binary.AppendVarint(bytes.Clone(before), int64(n)); !bytes.Equal(got, want) {
			t.Fatalf("AppendInt(% x, %d) = % x, not % x", before, n, got, want)
		}
		r := codec.New(got[len(before):])
		if x, e := r.Int(); x != n || e != api.OK || r.Done() != api.OK {
			t.Fatalf("Int = %d, %d, not %d", x, e, n)
		}
	}
}

// P9.1 and P9.2: byte strings of many lengths, around those at which their number gets another group.
func TestBytes(t *testing.T) {
	data := numbers(3)
	lengths := []int{1<<14 - 1, 1 << 14, 1<<14 + 1, 1<<21 - 1, 1 << 21}
	for length := range 300 {
		lengths = append(lengths, length)
	}
	for i, length := range lengths {
		x, before := data.bytes(length), data.bytes(i%5)
		got := codec.AppendBytes(before, x)
		want := append(binary.AppendUvarint(bytes.Clone(before), uint64(length)), x...)
		if !bytes.Equal(got, want) {
			t.Fatalf("AppendBytes of %d bytes is wrong", length)
		}
		r := codec.New(got[len(before):])
		if y, e := r.Bytes(); !bytes.Equal(x, y) || e != api.OK || r.Done() != api.OK {
			t.Fatalf("Bytes returns %d bytes, %d, not %d", len(y), e, length)
		}
		if length > 0 {
			r = codec.New(got[len(before) : len(got)-1])
			if y, e := r.Bytes(); len(y) != 0 || e != api.ErrForm {
				t.Fatalf("Bytes of a cut string of %d bytes returns %d bytes, %d", length, len(y), e)
			}
			checkFailed(t, r)
		}
	}
}

// P9.1 and P9.2: blocks, and their beginnings.
func TestBlock(t *testing.T) {
	data := numbers(4)
	for i := range 100 {
		before := data.bytes(i % 5)
		x := api.Block(data.bytes(8))
		got := codec.AppendBlock(before, x)
		if !bytes.Equal(got, append(bytes.Clone(before), x[:]...)) {
			t.Fatalf("AppendBlock(% x, %v) = % x", before, x, got)
		}
		r := codec.New(got[len(before):])
		if y, e := r.Block(); y != x || e != api.OK || r.Done() != api.OK {
			t.Fatalf("Block = %v, %d, not %v", y, e, x)
		}
	}
	for length := range 8 {
		r := codec.New(bytes.Repeat([]byte{9}, length))
		if y, e := r.Block(); y != (api.Block{}) || e != api.ErrForm {
			t.Errorf("Block of %d bytes = %v, %d", length, y, e)
		}
		checkFailed(t, r)
	}
}

// P9.1: the bound of Count is the greatest number that it reads.
func TestCount(t *testing.T) {
	for _, most := range []int{0, 1, 2, 127, 128, 300, 1 << 16, 1 << 40, math.MaxInt - 1, math.MaxInt} {
		for _, n := range append(edges(), uint64(most)-1, uint64(most), uint64(most)+1) {
			r := codec.New(append(codec.AppendUint(nil, n), 77))
			got, e := r.Count(most)
			if n <= uint64(most) {
				if got != int(n) || e != api.OK || r.Left() != 1 {
					t.Fatalf("Count(%d) of %d = %d, %d", most, n, got, e)
				}
				continue
			}
			if got != 0 || e != api.ErrForm {
				t.Fatalf("Count(%d) of %d = %d, %d", most, n, got, e)
			}
			checkFailed(t, r)
		}
	}
	for _, most := range []int{-1, -2, math.MinInt} {
		for _, n := range []uint64{0, 1, 1 << 63, math.MaxUint64} {
			r := codec.New(codec.AppendUint(nil, n))
			if got, e := r.Count(most); got != 0 || e != api.ErrForm {
				t.Errorf("Count(%d) of %d = %d, %d", most, n, got, e)
			}
		}
	}
}

// P9.1 and P9.3: all byte strings of at most two bytes, and all longer ones of a few bytes that matter.
func TestAllBytes(t *testing.T) {
	visit := func(b []byte) {
		for _, k := range kinds() {
			check(t, k, b)
		}
	}
	visit(nil)
	for i := range 256 {
		visit([]byte{byte(i)})
		for j := range 256 {
			visit([]byte{byte(i), byte(j)})
		}
	}
	alphabet := []byte{0, 1, 2, 127, 128, 129, 255}
	var extend func(b []byte, more int)
	extend = func(b []byte, more int) {
		visit(b)
		for _, v := range alphabet {
			if more > 0 {
				extend(append(b[:len(b):len(b)], v), more-1)
			}
		}
	}
	extend(nil, 4)
}

// P9.1 and P9.3: numbers around 2^64, whose last groups are too great or more than necessary.
func TestLongNumbers(t *testing.T) {
	for length := range 14 {
		for _, groups := range []byte{128, 129, 192, 255} {
			for _, last := range []byte{0, 1, 2, 3, 64, 127, 128, 129, 255} {
				b := append(bytes.Repeat([]byte{groups}, length), last)
				for _, k := range kinds() {
					check(t, k, b)
					check(t, k, append(bytes.Clone(b), 0))
					check(t, k, append(bytes.Clone(b), 1, 2, 3, 4, 5, 6, 7, 8, 9))
				}
			}
		}
	}
	for _, b := range [][]byte{bytes.Repeat([]byte{128}, 1<<20), bytes.Repeat([]byte{255}, 1<<20), append(bytes.Repeat([]byte{128}, 1<<20), 1)} {
		r := codec.New(b)
		if n, e := r.Uint(); n != 0 || e != api.ErrForm {
			t.Errorf("Uint of very many groups = %d, %d", n, e)
		}
		checkFailed(t, r)
	}
}

// P9.1: byte strings whose numbers of bytes are far greater than what remains.
func TestLongStrings(t *testing.T) {
	for _, length := range append(edges(), 4, 5) {
		if length <= 3 {
			continue
		}
		b := append(codec.AppendUint(nil, length), 1, 2, 3)
		r := codec.New(b)
		if got, e := r.Bytes(); len(got) != 0 || e != api.ErrForm {
			t.Errorf("Bytes of a string of %d = %v, %d", length, got, e)
		}
		checkFailed(t, r)
	}
}

// P9.1 and P9.3: random bytes, read with random methods up to the first error.
func TestRandomBytes(t *testing.T) {
	data := numbers(5)
	all := kinds()
	for range 20000 {
		b := data.bytes(data.below(40))
		for i := range b {
			if data.below(2) == 0 {
				b[i] %= 4
			}
		}
		r := codec.New(b)
		for range 20 {
			k := all[data.below(len(all))]
			want, size := reference(k.name, b)
			if got := k.read(r); got != want {
				t.Fatalf("%s of % x = %v, not %v", k.name, b, got, want)
			}
			if want.e != api.OK {
				checkFailed(t, r)
				break
			}
			if !bytes.Equal(k.encode(want), b[:size]) {
				t.Fatalf("%s of % x is not the only encoding of %v", k.name, b, want)
			}
			b = b[size:]
			if r.Left() != len(b) || (r.Done() == api.OK) != (len(b) == 0) {
				t.Fatalf("%d bytes left, not %d, Done %d", r.Left(), len(b), r.Done())
			}
		}
	}
}

// P9.2: sequences of values of all kinds are read in order, and nothing is left.
func TestRoundTrip(t *testing.T) {
	data := numbers(6)
	all := kinds()
	for range 2000 {
		var b []byte
		var chosen []kind
		var values []read
		for range data.below(20) {
			k := all[data.below(len(all))]
			x := read{n: data.value()}
			switch k.name {
			case "Int":
				x.n *= -(x.n & 1) | 1
			case "Count":
				x.n >>= 1
			case "Bytes":
				x = read{b: string(data.bytes(data.below(200)))}
			case "Block":
				x = read{b: string(data.bytes(8))}
			}
			chosen, values, b = append(chosen, k), append(values, x), append(b, k.encode(x)...)
		}
		r := codec.New(b)
		left := len(b)
		for i, k := range chosen {
			if r.Left() != left || r.Done() != api.ErrForm {
				t.Fatalf("%d bytes left, not %d, Done %d", r.Left(), left, r.Done())
			}
			if got := k.read(r); got != values[i] {
				t.Fatalf("%s = %v, not %v", k.name, got, values[i])
			}
			left -= len(k.encode(values[i]))
		}
		if r.Left() != 0 || r.Done() != api.OK {
			t.Fatalf("%d bytes left at the end, Done %d", r.Left(), r.Done())
		}
		for _, k := range all {
			if got := k.read(codec.New(nil)); got.e != api.ErrForm {
				t.Fatalf("%s of nothing: %v", k.name, got)
			}
		}
	}
}

// P9.2: appending one value after the other has the same bytes as joining their encodings.
func TestAppendAll(t *testing.T) {
	x := api.Block{8, 7, 6, 5, 4, 3, 2, 1}
	b := codec.AppendUint(nil, 1<<63)
	b = codec.AppendInt(b, math.MinInt)
	b = codec.AppendBytes(b, []byte("abc"))
	b = codec.AppendBlock(b, x)
	b = codec.AppendUint(b, 17)
	b = codec.AppendBytes(b, nil)
	r := codec.New(b)
	n, e1 := r.Uint()
	i, e2 := r.Int()
	s, e3 := r.Bytes()
	y, e4 := r.Block()
	c, e5 := r.Count(17)
	u, e6 := r.Bytes()
	if n != 1<<63 || i != math.MinInt || string(s) != "abc" || y != x || c != 17 || len(u) != 0 {
		t.Error(n, i, s, y, c, u)
	}
	if e1 != api.OK || e2 != api.OK || e3 != api.OK || e4 != api.OK || e5 != api.OK || e6 != api.OK || r.Done() != api.OK {
		t.Error(e1, e2, e3, e4, e5, e6, r.Done())
	}
}

// P9.1: results of appending are new memory, also if the first argument has room behind its end, and arguments are not modified.
func TestAppendMemory(t *testing.T) {
	room := []byte("0123456789abcdefghijklmnopqrstuvwxyz")
	kept := bytes.Clone(room)
	x := []byte("xyz")
	for _, b := range [][]byte{room[:0], room[:3], room} {
		for i, got := range [][]byte{codec.AppendUint(b, 1<<40), codec.AppendInt(b, -7), codec.AppendBytes(b, x), codec.AppendBytes(b, nil), codec.AppendBytes(b, b), codec.AppendBlock(b, api.Block{1})} {
			if !bytes.Equal(room, kept) || string(x) != "xyz" {
				t.Fatalf("function %d modified its argument", i)
			}
			if !bytes.Equal(got[:len(b)], b) {
				t.Fatalf("the result of function %d does not begin with its argument", i)
			}
			for j := range got[:cap(got)] {
				got[:cap(got)][j] = 255
			}
			if !bytes.Equal(room, kept) || string(x) != "xyz" {
				t.Fatalf("the result of function %d shares memory with an argument", i)
			}
		}
	}
}

// P9.1: a reader reads a copy, and the byte strings that it returns are new memory.
func TestReaderMemory(t *testing.T) {
	b := codec.AppendBytes(codec.AppendBytes(codec.AppendBytes(nil, []byte("abc")), nil), []byte("def"))
	kept := bytes.Clone(b)
	r, s := codec.New(b), codec.New(b)
	for i := range b {
		b[i] = 255
	}
	first, e := r.Bytes()
	if string(first) != "abc" || e != api.OK {
		t.Fatalf("the first string is %q, %d", first, e)
	}
	for i := range first[:cap(first)] {
		first[:cap(first)][i] = 255
	}
	empty, _ := r.Bytes()
	empty = append(empty, "longer than what is left"...)
	second, e := r.Bytes()
	if string(second) != "def" || e != api.OK || r.Done() != api.OK {
		t.Fatalf("the second string is %q, %d", second, e)
	}
	if first, _ := s.Bytes(); string(first) != "abc" || s.Left() != len(kept)-4 {
		t.Fatalf("another reader reads %q", first)
	}
	c := bytes.Clone(kept)
	for r = codec.New(c); r.Left() > 0; {
		got, _ := r.Bytes()
		for i := range got {
			got[i] = 255
		}
	}
	if !bytes.Equal(c, kept) {
		t.Fatal("a reader modified its argument")
	}
}

// P9.1: Done and Left remember nothing: bytes that are left are no error.
func TestDone(t *testing.T) {
	r := codec.New([]byte{1, 2})
	for want := 2; want > 0; want-- {
		for range 2 {
			if r.Left() != want || r.Done() != api.ErrForm {
				t.Fatalf("Left %d, Done %d, before %d bytes", r.Left(), r.Done(), want)
			}
		}
		if n, e := r.Uint(); n != uint64(3-want) || e != api.OK {
			t.Fatalf("Uint = %d, %d", n, e)
		}
	}
	if r.Left() != 0 || r.Done() != api.OK {
		t.Fatalf("Left %d, Done %d at the end", r.Left(), r.Done())
	}
	if n, e := r.Uint(); n != 0 || e != api.ErrForm {
		t.Fatalf("Uint at the end = %d, %d", n, e)
	}
	checkFailed(t, r)
}

// P9.1: an error of each method is remembered by all, though the remaining bytes would be encodings.
func TestErrorsStay(t *testing.T) {
	for _, k := range kinds() {
		b := []byte{128, 0, 0, 0, 0, 0, 0, 0, 0, 0}
		if k.name == "Block" {
			b = []byte{0, 0, 0, 0, 0, 0, 0}
		}
		r := codec.New(b)
		if got := k.read(r); got != (read{e: api.ErrForm}) {
			t.Errorf("%s = %v", k.name, got)
		}
		checkFailed(t, r)
	}
	r := codec.New([]byte{5, 0, 0, 0, 0})
	if n, e := r.Count(4); n != 0 || e != api.ErrForm {
		t.Errorf("Count(4) of 5 = %d, %d", n, e)
	}
	checkFailed(t, r)
	r = codec.New([]byte{5, 0, 0, 0, 0})
	if b, e := r.Bytes(); len(b) != 0 || e != api.ErrForm {
		t.Errorf("Bytes = %v, %d", b, e)
	}
	checkFailed(t, r)
}

// P9.1: a nil reader has nothing to read and remembers no error; a new one without bytes, and a zero one, remember it.
func TestNoBytes(t *testing.T) {
	for _, k := range kinds() {
		var none *codec.Reader
		for range 2 {
			if none.Left() != 0 || none.Done() != api.OK {
				t.Fatalf("nil: Left %d, Done %d", none.Left(), none.Done())
			}
			if got := k.read(none); got != (read{e: api.ErrForm}) {
				t.Fatalf("nil: %s = %v", k.name, got)
			}
			if n, e := none.Count(0); n != 0 || e != api.ErrForm {
				t.Fatalf("nil: Count(0) = %d, %d", n, e)
			}
			if n, e := none.Count(-1); n != 0 || e != api.ErrForm {
				t.Fatalf("nil: Count(-1) = %d, %d", n, e)
			}
		}
		for _, r := range []*codec.Reader{codec.New(nil), codec.New([]byte{}), new(codec.Reader)} {
			if r.Left() != 0 || r.Done() != api.OK {
				t.Fatalf("empty: Left %d, Done %d", r.Left(), r.Done())
			}
			if got := k.read(r); got != (read{e: api.ErrForm}) {
				t.Fatalf("empty: %s = %v", k.name, got)
			}
			checkFailed(t, r)
		}
	}
}
