package disk_test

import (
	"bytes"
	"math"
	"slices"
	"testing"

	"tegula/api"
	"tegula/disk"
	"tegula/disktest"
)

// small has the random sectors 0 and 1, and the sectors 2 to 4 on the overlapping tracks of a band.
var small = api.Geometry{Random: 2, Bands: 1, Tracks: 3, Sectors: 1, Overlap: 1}

// must fails unless a call succeeded.
func must(t *testing.T, e api.Errno) {
	t.Helper()
	if e != api.OK {
		t.Fatalf("error %d", e)
	}
}

// is fails unless a call returned this error.
func is(t *testing.T, what string, got, want api.Errno) {
	t.Helper()
	if got != want {
		t.Errorf("%s: error %d, want %d", what, got, want)
	}
}

// made returns a disk of a valid geometry with valid faults on a power supply.
func made(t *testing.T, g api.Geometry, p *disk.Power, faults ...api.Fault) *disk.Disk {
	t.Helper()
	d, e := disk.New(g, faults, p)
	if d == nil || e != api.OK {
		t.Fatalf("New(%+v, %v) = %v, %d", g, faults, d, e)
	}
	return d
}

// reads fails unless a sector has these bytes.
func reads(t *testing.T, d *disk.Disk, key uint64, a int, want string) {
	t.Helper()
	if b, e := d.Read(key, a); string(b) != want || e != api.OK {
		t.Errorf("Read(%d) = %q, %d, want %q", a, b, e, want)
	}
}

// noBytes returns the error of a read, which must have no bytes.
func noBytes(t *testing.T, d *disk.Disk, key uint64, a int) api.Errno {
	t.Helper()
	b, e := d.Read(key, a)
	if b != nil {
		t.Errorf("Read(%d) = %v with the error %d", a, b, e)
	}
	return e
}

// states returns a letter for the state of each sector.
func states(d *disk.Disk) string {
	g, s := d.Geometry(), ""
	for a := range g.Random + g.Bands*g.Tracks*g.Sectors {
		s += string("-wd"[d.State(a)])
	}
	return s
}

// snapshot is what a disk says about itself without an operation.
type snapshot struct {
	states       string
	ops, pending int
	dead         bool
	stats        api.Stats
}

func look(d *disk.Disk) snapshot {
	return snapshot{states(d), d.Ops(), d.Pending(), d.Dead(), d.Stats()}
}

// fail lets the power fail by an operation of a disk, which must be ready.
func fail(t *testing.T, p *disk.Power, d *disk.Disk, key uint64) {
	t.Helper()
	p.Arm(0)
	is(t, "the operation at which the power fails", d.Flush(key), api.ErrPower)
	if !p.Off() {
		t.Fatal("the power has not failed")
	}
}

// cut lets the power fail and restarts a disk.
func cut(t *testing.T, p *disk.Power, d *disk.Disk, key uint64, keep int) {
	t.Helper()
	fail(t, p, d, key)
	must(t, d.Restart(keep))
	p.On()
}

// P14.1: the example of a fault.
func TestExampleOfFault(t *testing.T) {
	d := made(t, small, disk.NewPower(), api.Fault{At: 1, Kind: api.FaultDrop})
	must(t, d.Write(0, 0, []byte("first"), false))
	must(t, d.Write(0, 0, []byte("second"), false))
	reads(t, d, 0, 0, "first")
}

// P14.1: the example of the power.
func TestExampleOfPower(t *testing.T) {
	p := disk.NewPower()
	d, other := made(t, small, p), made(t, small, p)
	p.Arm(1)
	must(t, d.Write(0, 0, []byte("a"), false))
	is(t, "the second operation", other.Flush(0), api.ErrPower)
	is(t, "the third operation", d.Flush(0), api.ErrPower)
}

// P14.1: a new disk has the given geometry, blank sectors, the key 0, and nothing pending or counted.
func TestNew(t *testing.T) {
	for _, g := range append(disktest.Geometries(), api.Geometry{Random: 16384, Bands: 64, Tracks: 16, Sectors: 64, Overlap: 3}) {
		d := made(t, g, disk.NewPower())
		if d.Geometry() != g {
			t.Errorf("Geometry = %+v, want %+v", d.Geometry(), g)
		}
		size := g.Random + g.Bands*g.Tracks*g.Sectors
		for a := range size {
			if d.State(a) != api.SectorBlank {
				t.Fatalf("%+v: State(%d) = %d", g, a, d.State(a))
			}
		}
		if d.Ops() != 0 || d.Pending() != 0 || d.Dead() || d.Stats() != (api.Stats{}) {
			t.Errorf("%+v: %d operations, %d pending, dead: %t, %+v", g, d.Ops(), d.Pending(), d.Dead(), d.Stats())
		}
		is(t, "another key", d.Flush(1), api.ErrFenced)
		is(t, "a blank sector", noBytes(t, d, 0, size-1), api.ErrMedia)
		must(t, d.Write(0, size-1, []byte("last"), false))
		reads(t, d, 0, size-1, "last")
	}
}

// P14.1: New refuses an invalid geometry, invalid faults and a nil power supply, with no other result.
func TestNewInvalid(t *testing.T) {
	refused := func(what string, g api.Geometry, l []api.Fault, p *disk.Power) {
		t.Helper()
		if d, e := disk.New(g, l, p); d != nil || e != api.ErrArg {
			t.Errorf("%s: New = %v, %d", what, d, e)
		}
	}
	p := disk.NewPower()
	refused("no power supply", small, nil, nil)
	refused("zero geometry", api.Geometry{}, nil, p)
	for field, bad := range [][]int{{-1, 16385}, {0, 65}, {0, 17}, {0, 65}, {-1, 4}} {
		for _, n := range append(bad, math.MinInt, math.MaxInt) {
			g := small
			*[]*int{&g.Random, &g.Bands, &g.Tracks, &g.Sectors, &g.Overlap}[field] = n
			refused("geometry", g, nil, p)
		}
	}
	for _, l := range [][]api.Fault{
		{{At: -1, Kind: api.FaultDrop}},
		{{Kind: 0}},
		{{Kind: api.FaultDie + 1}},
		{{Kind: api.FaultDrop, To: 1}},
		{{Kind: api.FaultOther, To: -1}},
		{{At: 3, Kind: api.FaultDrop}, {At: 3, Kind: api.FaultSlow}},
		{{At: 3, Kind: api.FaultDrop}, {At: 2, Kind: api.FaultSlow}},
	} {
		refused("faults", small, l, p)
	}
	must(t, made(t, small, p).Flush(0))
}

// P14.1: New neither changes nor keeps the list of faults.
func TestNewCopies(t *testing.T) {
	list := []api.Fault{{At: 1, Kind: api.FaultSlow}, {At: 3, Kind: api.FaultSlow}}
	given := slices.Clone(list)
	d := made(t, small, disk.NewPower(), given...)
	given[0].At, given[1].Kind = 0, api.FaultDie
	for _, want := range []api.Errno{api.OK, api.ErrBusy, api.OK, api.ErrBusy, api.OK} {
		is(t, "Flush", d.Flush(0), want)
	}
	given = slices.Clone(list)
	d = made(t, small, disk.NewPower(), given...)
	for range 5 {
		d.Flush(0)
	}
	if !slices.Equal(given, list) {
		t.Errorf("the faults are %v now", given)
	}
}

// P14.1, P1: the methods of a nil disk and of a nil power supply.
func TestNil(t *testing.T) {
	var p *disk.Power
	for _, n := range []int{math.MinInt, -1, 0, 1, math.MaxInt} {
		p.Arm(n)
		p.On()
		if p.Off() {
			t.Error("a nil power supply is off")
		}
	}
	var d *disk.Disk
	d.Kill()
	for _, n := range append(disktest.Beyond(4), 0, 1) {
		is(t, "Acquire", d.Acquire(uint64(n)), api.ErrState)
		is(t, "Read", noBytes(t, d, uint64(n), n), api.ErrState)
		is(t, "Write", d.Write(uint64(n), n, make([]byte, 65), n%2 == 0), api.ErrState)
		is(t, "Erase", d.Erase(uint64(n), n), api.ErrState)
		is(t, "Flush", d.Flush(uint64(n)), api.ErrState)
		is(t, "Restart", d.Restart(n), api.ErrState)
		if d.State(n) != api.SectorBlank {
			t.Errorf("State(%d) = %d", n, d.State(n))
		}
	}
	if d.Geometry() != (api.Geometry{}) || d.Dead() || d.Stats() != (api.Stats{}) || d.Ops() != 0 || d.Pending() != 0 {
		t.Error("Geometry, Dead, Stats, Ops or Pending is not zero")
	}
}

// P14.1, P1: a disk that New did not make has no power supply, so that it is not ready; a power supply that NewPower did not make is a new one.
func TestZero(t *testing.T) {
	var d disk.Disk
	is(t, "Acquire", d.Acquire(1), api.ErrPower)
	is(t, "Read", noBytes(t, &d, 0, 0), api.ErrPower)
	is(t, "Write", d.Write(0, 0, nil, true), api.ErrPower)
	is(t, "Erase", d.Erase(0, 0), api.ErrPower)
	is(t, "Flush", d.Flush(0), api.ErrPower)
	is(t, "Restart", d.Restart(0), api.ErrState)
	if d.Geometry() != (api.Geometry{}) || d.State(0) != api.SectorBlank || d.Stats() != (api.Stats{}) || d.Ops() != 0 || d.Pending() != 0 || d.Dead() {
		t.Error("Geometry, State, Stats, Ops, Pending or Dead is not zero")
	}
	d.Kill()
	is(t, "Restart of a dead disk", d.Restart(0), api.ErrDead)
	var p disk.Power
	f := made(t, small, &p)
	must(t, f.Flush(0))
	cut(t, &p, f, 0, 0)
	must(t, f.Flush(0))
}

// operation is a call of one of the operations.
type operation struct {
	name string
	call func(d *disk.Disk, key uint64) api.Errno
}

// calls lists operations that succeed on any disk of the geometry small whose sector 0 is written.
func calls() []operation {
	return []operation{
		{"Read", func(d *disk.Disk, key uint64) api.Errno { _, e := d.Read(key, 0); return e }},
		{"Write", func(d *disk.Disk, key uint64) api.Errno { return d.Write(key, 1, []byte("x"), false) }},
		{"forced Write", func(d *disk.Disk, key uint64) api.Errno { return d.Write(key, 3, []byte("x"), true) }},
		{"Erase", func(d *disk.Disk, key uint64) api.Errno { return d.Erase(key, 0) }},
		{"Flush", func(d *disk.Disk, key uint64) api.Errno { return d.Flush(key) }},
	}
}

// reasons are reasons for errors of an operation.
type reasons struct {
	limit, place, slow, die, key, arm, off, dead bool
}

// attempt is a disk and the arguments of an operation on it.
type attempt struct {
	d     *disk.Disk
	key   uint64
	place int
	bytes []byte
}

// attempted returns an operation on a new disk that has these reasons to fail.
func attempted(t *testing.T, r reasons) attempt {
	t.Helper()
	var faults []api.Fault
	if r.slow {
		faults = append(faults, api.Fault{Kind: api.FaultSlow})
	}
	if r.die {
		faults = append(faults, api.Fault{Kind: api.FaultDie})
	}
	p := disk.NewPower()
	a := attempt{d: made(t, small, p, faults...)}
	if r.arm {
		p.Arm(0)
	}
	if r.off {
		fail(t, p, made(t, small, p), 0)
	}
	if r.dead {
		a.d.Kill()
	}
	if r.key {
		a.key = 1
	}
	if r.place {
		a.place = 5
	}
	if r.limit {
		a.bytes = make([]byte, 65)
	}
	return a
}

// P14.1: if several errors apply, the first one of the steps is returned: death, no power, the failure of the power, another key, the fault, range, limit, media.
func TestOrderOfErrors(t *testing.T) {
	const unread = api.ErrMedia
	for _, row := range []struct {
		r                         reasons
		read, write, erase, flush api.Errno
	}{
		{reasons{}, unread, api.OK, api.OK, api.OK},
		{reasons{limit: true}, unread, api.ErrLimit, api.OK, api.OK},
		{reasons{limit: true, place: true}, api.ErrRange, api.ErrRange, api.ErrRange, api.OK},
		{reasons{limit: true, place: true, slow: true}, api.ErrBusy, api.ErrBusy, api.ErrBusy, api.ErrBusy},
		{reasons{limit: true, place: true, die: true}, api.ErrDead, api.ErrDead, api.ErrDead, api.ErrDead},
		{reasons{limit: true, place: true, slow: true, key: true}, api.ErrFenced, api.ErrFenced, api.ErrFenced, api.ErrFenced},
		{reasons{limit: true, place: true, die: true, key: true}, api.ErrFenced, api.ErrFenced, api.ErrFenced, api.ErrFenced},
		{reasons{limit: true, place: true, die: true, key: true, arm: true}, api.ErrPower, api.ErrPower, api.ErrPower, api.ErrPower},
		{reasons{limit: true, place: true, die: true, key: true, off: true}, api.ErrPower, api.ErrPower, api.ErrPower, api.ErrPower},
		{reasons{limit: true, place: true, die: true, key: true, arm: true, dead: true}, api.ErrDead, api.ErrDead, api.ErrDead, api.ErrDead},
		{reasons{limit: true, place: true, die: true, key: true, off: true, dead: true}, api.ErrDead, api.ErrDead, api.ErrDead, api.ErrDead},
	} {
		a := attempted(t, row.r)
		read := noBytes(t, a.d, a.key, a.place)
		a = attempted(t, row.r)
		write := a.d.Write(a.key, a.place, a.bytes, true)
		a = attempted(t, row.r)
		erase := a.d.Erase(a.key, a.place)
		a = attempted(t, row.r)
		flush := a.d.Flush(a.key)
		if read != row.read || write != row.write || erase != row.erase || flush != row.flush {
			t.Errorf("%+v: the errors are %d, %d, %d, %d", row, read, write, erase, flush)
		}
	}
}

// P14.1: sectors and bands that do not exist, and more than 64 bytes: ErrRange comes before ErrLimit, nothing changes, and the operation is counted, but not in the statistics.
func TestRangeAndLimit(t *testing.T) {
	for _, g := range disktest.Geometries() {
		d := made(t, g, disk.NewPower())
		must(t, d.Write(0, 0, []byte("kept"), false))
		before := look(d)
		size := len(disktest.Blank(g))
		ops := d.Ops()
		counted := func(what string, e, want api.Errno) {
			t.Helper()
			is(t, what, e, want)
			ops++
			now := look(d)
			if now.ops != ops || now.states != before.states || now.stats != before.stats || now.pending != 1 {
				t.Fatalf("%+v: after %s: %+v, before %+v", g, what, now, before)
			}
		}
		for _, a := range disktest.Beyond(size) {
			counted("Read", noBytes(t, d, 0, a), api.ErrRange)
			for _, n := range []int{0, 64, 65, 1000} {
				counted("Write", d.Write(0, a, make([]byte, n), n%2 == 0), api.ErrRange)
			}
			if d.State(a) != api.SectorBlank {
				t.Errorf("%+v: State(%d) = %d", g, a, d.State(a))
			}
		}
		for _, band := range disktest.Beyond(g.Bands) {
			counted("Erase", d.Erase(0, band), api.ErrRange)
		}
		for a := range size {
			for _, n := range []int{65, 66, 1 << 16} {
				counted("Write", d.Write(0, a, make([]byte, n), a%2 == 0), api.ErrLimit)
			}
		}
		reads(t, d, 0, 0, "kept")
	}
}

// P14.1: sectors take from 0 to 64 bytes, forced or not, and keep them through a power failure.
func TestBytes(t *testing.T) {
	long := bytes.Repeat([]byte("z"), 64)
	for _, n := range []int{0, 1, 2, 63, 64} {
		for _, force := range []bool{false, true} {
			p := disk.NewPower()
			d := made(t, small, p)
			for a := range 5 {
				must(t, d.Write(0, a, long[:n], force))
				reads(t, d, 0, a, string(long[:n]))
			}
			cut(t, p, d, 0, 5)
			for a := range 5 {
				reads(t, d, 0, a, string(long[:n]))
			}
		}
	}
	d := made(t, small, disk.NewPower())
	must(t, d.Write(0, 0, nil, false))
	reads(t, d, 0, 0, "")
}

// P14.1: a sector that is blank or destroyed cannot be read; the states are those of the contents of the cache, whether they are durable or not.
func TestStates(t *testing.T) {
	d := made(t, small, disk.NewPower())
	step := func(what string, e api.Errno, want string, pending int) {
		t.Helper()
		must(t, e)
		if got := states(d); got != want || d.Pending() != pending {
			t.Errorf("%s: the states are %s, want %s; %d are pending, want %d", what, got, want, d.Pending(), pending)
		}
		for a, s := range want {
			b, e := d.Read(0, a)
			if s == 'w' && e != api.OK || s != 'w' && (b != nil || e != api.ErrMedia) {
				t.Errorf("%s: Read(%d) = %v, %d", what, a, b, e)
			}
		}
	}
	step("random", d.Write(0, 1, []byte("a"), false), "-w---", 1)
	step("first track", d.Write(0, 2, []byte("b"), false), "-wwd-", 2)
	step("next track", d.Write(0, 3, []byte("c"), false), "-wwwd", 3)
	step("flush", d.Flush(0), "-wwwd", 0)
	step("first track again", d.Write(0, 2, []byte("d"), false), "-wwdd", 1)
	step("last track, forced", d.Write(0, 4, []byte("e"), true), "-wwdw", 0)
	step("erasure", d.Erase(0, 0), "-w---", 1)
}

// P14.1: the statistics count the operations of each kind that returned OK; a forced write is no flush; Ops counts those with errors, too.
func TestStats(t *testing.T) {
	d := made(t, small, disk.NewPower(), api.Fault{At: 8, Kind: api.FaultSlow}, api.Fault{At: 9, Kind: api.FaultDrop}, api.Fault{At: 11, Kind: api.FaultDie})
	ops, stats := 0, api.Stats{}
	step := func(what string, e, want api.Errno, count *int) {
		t.Helper()
		is(t, what, e, want)
		ops++
		if want == api.OK {
			*count++
		}
		if d.Stats() != stats || d.Ops() != ops {
			t.Errorf("%s: %+v and %d operations, want %+v and %d", what, d.Stats(), d.Ops(), stats, ops)
		}
	}
	step("forced write", d.Write(0, 0, nil, true), api.OK, &stats.Writes)
	step("erasure", d.Erase(0, 0), api.OK, &stats.Erases)
	step("flush", d.Flush(0), api.OK, &stats.Flushes)
	_, e := d.Read(0, 0)
	step("read", e, api.OK, &stats.Reads)
	step("read of a blank sector", noBytes(t, d, 0, 1), api.ErrMedia, nil)
	step("read of no sector", noBytes(t, d, 0, 9), api.ErrRange, nil)
	step("erasure of no band", d.Erase(0, 1), api.ErrRange, nil)
	step("write of 65 bytes", d.Write(0, 0, make([]byte, 65), true), api.ErrLimit, nil)
	step("slow flush", d.Flush(0), api.ErrBusy, nil)
	step("dropped write", d.Write(0, 0, nil, true), api.OK, &stats.Writes)
	step("second flush", d.Flush(0), api.OK, &stats.Flushes)
	step("death", d.Erase(0, 0), api.ErrDead, nil)
	is(t, "after the death", d.Erase(0, 0), api.ErrDead)
	if d.Stats() != stats || d.Ops() != ops {
		t.Errorf("%+v and %d operations after the death", d.Stats(), d.Ops())
	}
}

// P14.1: each operation that returns OK is counted in one field.
func TestStatsOfEach(t *testing.T) {
	want := []api.Stats{{Reads: 1}, {Writes: 1}, {Writes: 1}, {Erases: 1}, {Flushes: 1}}
	for i, o := range calls() {
		d := made(t, small, disk.NewPower())
		if o.name == "Read" {
			must(t, d.Write(0, 0, nil, false))
			want[i].Writes++
		}
		must(t, o.call(d, 0))
		if d.Stats() != want[i] {
			t.Errorf("%s: %+v, want %+v", o.name, d.Stats(), want[i])
		}
	}
}

// P14.1: Write keeps a copy of its bytes and does not change them, also with a fault; what Read returns is new memory.
func TestNewMemory(t *testing.T) {
	d := made(t, small, disk.NewPower(), api.Fault{At: 1, Kind: api.FaultTear}, api.Fault{At: 2, Kind: api.FaultStray, To: 2}, api.Fault{At: 5, Kind: api.FaultOther, To: 2})
	b := []byte("bytes")
	for a := range 3 {
		must(t, d.Write(0, a, b, false))
		if string(b) != "bytes" {
			t.Fatalf("write %d made the bytes %q", a, b)
		}
		b[0] = 'x'
		b = []byte("bytes")
	}
	for range 2 {
		for a, want := range []string{"bytes", "by", "bytes"} {
			got, e := d.Read(0, a)
			if string(got) != want || e != api.OK {
				t.Errorf("Read(%d) = %q, %d, want %q", a, got, e, want)
			}
			clear(got)
		}
		must(t, d.Flush(0))
	}
}

// P14.1: Kill makes a disk die, in whatever state the power is; it stays dead, and shows its numbers and its contents as they were.
func TestKill(t *testing.T) {
	for _, off := range []bool{false, true} {
		p := disk.NewPower()
		d := made(t, small, p)
		must(t, d.Acquire(3))
		must(t, d.Write(3, 0, []byte("a"), false))
		must(t, d.Write(3, 3, []byte("b"), false))
		if off {
			fail(t, p, d, 3)
		}
		before := look(d)
		before.dead = true
		d.Kill()
		d.Kill()
		for range 2 {
			for _, o := range calls() {
				is(t, o.name, o.call(d, 3), api.ErrDead)
			}
			is(t, "Acquire", d.Acquire(4), api.ErrDead)
			is(t, "Restart", d.Restart(1), api.ErrDead)
			if look(d) != before || d.Geometry() != small {
				t.Errorf("%+v, want %+v", look(d), before)
			}
			p.On()
		}
	}
}
