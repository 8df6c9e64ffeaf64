package entry_test

import (
	"bytes"
	"encoding/binary"
	"hash/crc64"
	"math"
	"testing"

	"tegula/api"
	"tegula/disktest"
	"tegula/entry"
)

// size is the number of bytes of an encoding, as the chapter states it.
const size = 37

// seal returns bytes and their sum.
func seal(b []byte) []byte {
	return binary.LittleEndian.AppendUint64(bytes.Clone(b), crc64.Checksum(b, crc64.MakeTable(crc64.ECMA)))
}

// encoding returns the bytes of any numbers and data that have room in an encoding, with the right sum.
func encoding(kind byte, block uint32, version uint64, data api.Block, time uint64) []byte {
	b := []byte{kind}
	b = binary.LittleEndian.AppendUint32(b, block)
	b = binary.LittleEndian.AppendUint64(b, version)
	b = append(b, data[:]...)
	return seal(binary.LittleEndian.AppendUint64(b, time))
}

// valid decides by the definition whether an entry is valid.
func valid(e api.Entry) bool {
	if e.Block < 0 || e.Block > 65535 || e.Version < 1 {
		return false
	}
	switch e.Kind {
	case api.EntryData:
		return true
	case api.EntryTrim:
		return e.Data == api.Block{0, 0, 0, 0, 0, 0, 0, 0}
	}
	return false
}

// words lists numbers of 64 bits whose bytes differ, and numbers near the bounds.
func words() []uint64 {
	return []uint64{0, 1, 2, 255, 256, 0x0807060504030201, 0xf1f2f3f4f5f6f7f8, 1 << 31, 1 << 32, 1 << 40, 1 << 63, math.MaxUint64 - 1, math.MaxUint64}
}

// blocks lists contents of blocks: zero, each byte alone, and others.
func blocks() []api.Block {
	all := []api.Block{{}, {1, 2, 3, 4, 5, 6, 7, 8}, {255, 255, 255, 255, 255, 255, 255, 255}}
	for i := range len(api.Block{}) {
		var b api.Block
		b[i] = 128
		all = append(all, b)
	}
	return all
}

// entries lists valid entries, and entries that break each condition, also ones that would be valid if only the bytes that have room in an encoding were looked at.
func entries() []api.Entry {
	var all []api.Entry
	for _, kind := range []int{math.MinInt, -255, -1, 0, api.EntryData, api.EntryTrim, 3, 4, 256, 257, 258, 1<<32 + 1, math.MaxInt} {
		for _, block := range []int{math.MinInt, math.MinInt32, -65536, -1, 0, 1, 255, 256, 258, 32768, 65534, 65535, 65536, 65537, math.MaxInt32, math.MaxUint32, 1 << 32, 1<<32 + 1, math.MaxInt} {
			for _, version := range words() {
				for _, data := range blocks() {
					all = append(all, api.Entry{Kind: kind, Block: block, Version: version, Data: data})
				}
			}
		}
	}
	return all
}

// rejected fails unless Decode returns this error and nothing else.
func rejected(t *testing.T, b []byte, want api.Errno) {
	t.Helper()
	if e, time, err := entry.Decode(b); e != (api.Entry{}) || time != 0 || err != want {
		t.Fatalf("Decode(% x) = %+v, %d, %d, want the error %d", b, e, time, err, want)
	}
}

// decoded fails unless Decode returns this entry and time.
func decoded(t *testing.T, b []byte, want api.Entry, wantTime uint64) {
	t.Helper()
	if e, time, err := entry.Decode(b); e != want || time != wantTime || err != api.OK {
		t.Fatalf("Decode(% x) = %+v, %d, %d, want %+v, %d", b, e, time, err, want, wantTime)
	}
}

// encoded returns the encoding of a valid entry.
func encoded(t *testing.T, e api.Entry, time uint64) []byte {
	t.Helper()
	b, err := entry.Encode(e, time)
	if len(b) != size || err != api.OK {
		t.Fatalf("Encode(%+v, %d) = % x, %d", e, time, b, err)
	}
	return b
}

// P15.1: the example of the chapter.
func TestExample(t *testing.T) {
	e := api.Entry{Kind: api.EntryTrim, Block: 258, Version: 1}
	b := encoded(t, e, 3)
	want := append([]byte{2, 2, 1, 0, 0, 1}, make([]byte, 15)...)
	want = append(append(want, 3), make([]byte, 7)...)
	if !bytes.Equal(b[:29], want) || !bytes.Equal(b, seal(want)) {
		t.Errorf("Encode(%+v, 3) = % x", e, b)
	}
	decoded(t, b, e, 3)
}

// P15.1: an encoding whose bytes all differ, and the sum behind them, written out.
func TestAllBytes(t *testing.T) {
	e := api.Entry{Kind: api.EntryData, Block: 0x0302, Version: 0x1716151413121110, Data: api.Block{0x20, 0x21, 0x22, 0x23, 0x24, 0x25, 0x26, 0x27}}
	const time = 0x3736353433323130
	const body = "\x01\x02\x03\x00\x00\x10\x11\x12\x13\x14\x15\x16\x17\x20\x21\x22\x23\x24\x25\x26\x27\x30\x31\x32\x33\x34\x35\x36\x37"
	b := encoded(t, e, time)
	if string(b) != string(seal([]byte(body))) {
		t.Errorf("Encode(%+v, %x) = % x", e, uint64(time), b)
	}
	decoded(t, b, e, time)
}

// P15.1: Encode of valid entries and of entries that break each condition; P15.2: Decode returns the valid ones, with every time.
func TestEntries(t *testing.T) {
	good := 0
	for i, e := range entries() {
		time := words()[i%len(words())]
		if !valid(e) {
			if b, err := entry.Encode(e, time); b != nil || err != api.ErrArg {
				t.Fatalf("Encode(%+v, %d) = % x, %d", e, time, b, err)
			}
			continue
		}
		good++
		b := encoded(t, e, time)
		if !bytes.Equal(b, encoding(byte(e.Kind), uint32(e.Block), e.Version, e.Data, time)) {
			t.Fatalf("Encode(%+v, %d) = % x", e, time, b)
		}
		decoded(t, b, e, time)
	}
	if want := 8 * (len(words()) - 1) * (len(blocks()) + 1); good != want {
		t.Errorf("%d entries were valid, not %d", good, want)
	}
}

// P15.1 and P15.2: every block, and versions and times bit by bit.
func TestNumbers(t *testing.T) {
	for block := range api.MaxBlocks {
		e := api.Entry{Kind: api.EntryTrim, Block: block, Version: 1}
		decoded(t, encoded(t, e, 0), e, 0)
	}
	for shift := range 64 {
		e := api.Entry{Kind: api.EntryData, Version: 1 << shift}
		decoded(t, encoded(t, e, 1<<shift), e, 1<<shift)
		e.Version = math.MaxUint64 >> shift
		decoded(t, encoded(t, e, math.MaxUint64<<shift), e, math.MaxUint64<<shift)
	}
}

// P15.2: random valid entries and times are returned, and different ones have different encodings.
func TestRandomEntries(t *testing.T) {
	data := disktest.Numbers(15)
	type timed struct {
		e    api.Entry
		time uint64
	}
	of := map[string]timed{}
	for range 20000 {
		x := timed{api.Entry{Kind: data.Between(1, 2), Block: data.Between(0, 65535), Version: data.Next()>>data.Between(0, 63) | 1}, data.Next() >> data.Between(0, 63)}
		if x.e.Kind == api.EntryData {
			x.e.Data = api.Block(binary.LittleEndian.AppendUint64(nil, data.Next()))
		}
		b := encoded(t, x.e, x.time)
		decoded(t, b, x.e, x.time)
		if other, found := of[string(b)]; found && other != x {
			t.Fatalf("%+v and %+v have the encoding % x", x, other, b)
		}
		of[string(b)] = x
	}
}

// checkSealed compares Decode of any numbers and data with the right sum with the definition, and encodes what is decoded.
func checkSealed(t *testing.T, kind byte, block uint32, version uint64, data api.Block, time uint64) {
	t.Helper()
	b := encoding(kind, block, version, data, time)
	e := api.Entry{Kind: int(kind), Block: int(block), Version: version, Data: data}
	if !valid(e) {
		rejected(t, b, api.ErrForm)
		return
	}
	decoded(t, b, e, time)
	if got := encoded(t, e, time); !bytes.Equal(got, b) {
		t.Fatalf("% x was decoded, but % x is the encoding", b, got)
	}
}

// P15.1: Decode of bytes with the right sum returns ErrForm if the entry is not valid; P15.2: what is decoded is the encoding of the result.
func TestSealed(t *testing.T) {
	for kind := range 256 {
		for _, data := range blocks() {
			checkSealed(t, byte(kind), 7, 9, data, 11)
		}
		checkSealed(t, byte(kind), 65536, 9, api.Block{}, 11)
		checkSealed(t, byte(kind), 7, 0, api.Block{}, 11)
	}
	for _, block := range []uint32{0, 1, 65535, 65536, 65537, 1 << 24, 1<<24 + 1, 1<<31 - 1, 1 << 31, 1<<31 + 1, math.MaxUint32 - 65535, math.MaxUint32 - 1, math.MaxUint32} {
		for _, version := range words() {
			for _, data := range blocks() {
				for _, time := range words() {
					checkSealed(t, api.EntryData, block, version, data, time)
					checkSealed(t, api.EntryTrim, block, version, data, time)
				}
			}
		}
	}
}

// P15.1: Decode of other numbers of bytes returns ErrForm, also if the last eight are the sum of the others, or if the first 37 are an encoding.
func TestLengths(t *testing.T) {
	data := disktest.Numbers(16)
	good := encoding(api.EntryData, 1, 2, api.Block{3}, 4)
	for length := range 200 {
		if length == size {
			continue
		}
		rejected(t, make([]byte, length), api.ErrForm)
		long := append(bytes.Clone(good), make([]byte, 200)...)
		rejected(t, long[:length], api.ErrForm)
		rejected(t, long[len(long)-length:], api.ErrForm)
		if length >= 8 {
			rejected(t, seal(long[:length-8]), api.ErrForm)
		}
		random := make([]byte, length)
		for i := range random {
			random[i] = byte(data.Next())
		}
		rejected(t, random, api.ErrForm)
	}
	rejected(t, nil, api.ErrForm)
	rejected(t, []byte{}, api.ErrForm)
	rejected(t, make([]byte, 1<<20), api.ErrForm)
	rejected(t, bytes.Repeat(good, 1000), api.ErrForm)
	decoded(t, good, api.Entry{Kind: api.EntryData, Block: 1, Version: 2, Data: api.Block{3}}, 4)
}

// P15.1: a wrong sum comes before an entry that is not valid.
func TestOrderOfErrors(t *testing.T) {
	for _, b := range [][]byte{
		encoding(0, 1, 1, api.Block{}, 1), encoding(3, 1, 1, api.Block{}, 1), encoding(1, 65536, 1, api.Block{}, 1),
		encoding(1, 1, 0, api.Block{}, 1), encoding(2, 1, 1, api.Block{1}, 1),
	} {
		rejected(t, b, api.ErrForm)
		for i := range b {
			changed := bytes.Clone(b)
			changed[i] ^= 64
			rejected(t, changed, api.ErrSum)
		}
	}
	rejected(t, make([]byte, size), api.ErrSum)
	rejected(t, bytes.Repeat([]byte{255}, size), api.ErrSum)
}

// P15.1: 37 random bytes have no sum; with their sum they are decoded only if they are an encoding.
func TestRandomBytes(t *testing.T) {
	data := disktest.Numbers(17)
	for range 5000 {
		b := make([]byte, size)
		for i := range b {
			b[i] = byte(data.Next())
		}
		rejected(t, b, api.ErrSum)
		checkSealed(t, b[0]%4, uint32(b[1])<<(b[2]%18), data.Next()>>(b[3]%65), api.Block{b[4] % 2}, data.Next())
	}
}

// P15.3: whatever byte of an encoding is changed, and however, the sum does not match.
func TestIntegrity(t *testing.T) {
	for _, b := range [][]byte{
		encoded(t, api.Entry{Kind: api.EntryData, Block: 65535, Version: 1 << 40, Data: api.Block{1, 2, 3, 4, 5, 6, 7, 8}}, 258),
		encoded(t, api.Entry{Kind: api.EntryData, Version: 1}, 0),
		encoded(t, api.Entry{Kind: api.EntryTrim, Block: 258, Version: math.MaxUint64}, math.MaxUint64),
	} {
		for i := range b {
			for change := 1; change < 256; change++ {
				changed := bytes.Clone(b)
				changed[i] ^= byte(change)
				rejected(t, changed, api.ErrSum)
			}
		}
	}
}

// P15.3: the first half of an encoding is not decoded; nor is any other part of it.
func TestHalf(t *testing.T) {
	for _, e := range entries() {
		if valid(e) {
			b := encoded(t, e, 5)
			rejected(t, b[:len(b)/2], api.ErrForm)
		}
	}
	b := encoded(t, api.Entry{Kind: api.EntryTrim, Block: 1, Version: 1}, 1)
	for from := range b {
		for to := from; to <= len(b); to++ {
			if to-from < len(b) {
				rejected(t, b[from:to], api.ErrForm)
			}
		}
	}
}

// P1: an encoding is new memory, and Decode changes nothing, also where it returns an error.
func TestMemory(t *testing.T) {
	e := api.Entry{Kind: api.EntryData, Block: 3, Version: 4, Data: api.Block{5, 6, 7}}
	first := encoded(t, e, 8)
	kept := bytes.Clone(first)
	for i := range first[:cap(first)] {
		first[:cap(first)][i] = 255
	}
	if second := encoded(t, e, 8); !bytes.Equal(second, kept) {
		t.Errorf("the encoding is % x after an earlier one was changed, not % x", second, kept)
	}
	for _, b := range [][]byte{kept, first, kept[:20], encoding(9, 1, 1, api.Block{}, 1)} {
		before := bytes.Clone(b[:cap(b)])
		_, _, _ = entry.Decode(b)
		if !bytes.Equal(b[:cap(b)], before) {
			t.Errorf("% x became % x", before, b[:cap(b)])
		}
	}
	got, _, _ := entry.Decode(kept)
	clear(kept)
	if got != e {
		t.Errorf("the entry became %+v", got)
	}
}
