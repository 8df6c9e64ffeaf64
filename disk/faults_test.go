package disk_test

import (
	"bytes"
	"math"
	"testing"

	"tegula/api"
	"tegula/disk"
)

// withFault returns a disk with "old" in sector 0, "pen" pending in sector 2, and a fault at its next operation.
func withFault(t *testing.T, kind, to int) (*disk.Disk, *disk.Power) {
	t.Helper()
	p := disk.NewPower()
	d := made(t, small, p, api.Fault{At: 2, Kind: kind, To: to})
	must(t, d.Write(0, 0, []byte("old"), true))
	must(t, d.Write(0, 2, []byte("pen"), false))
	return d, p
}

// P14.1: what a write to sector 1 of "new" does with each fault, forced and not: the error, the states, the bytes of sector 1, and whether it was appended to what is pending.
func TestFaultsOfWrites(t *testing.T) {
	rows := []struct {
		kind, to int
		e        api.Errno
		states   string
		bytes    string
		done     bool
	}{
		{0, 0, api.OK, "wwwd-", "new", true},
		{api.FaultDrop, 0, api.OK, "w-wd-", "", false},
		{api.FaultTear, 0, api.OK, "wwwd-", "n", true},
		{api.FaultStray, 0, api.OK, "w-wd-", "", true},
		{api.FaultStray, 1, api.OK, "wwwd-", "new", true},
		{api.FaultStray, 3, api.OK, "w-wwd", "", true},
		{api.FaultStray, 5, api.OK, "w-wd-", "", false},
		{api.FaultStray, math.MaxInt, api.OK, "w-wd-", "", false},
		{api.FaultFail, 0, api.OK, "wwwd-", "new", true},
		{api.FaultOther, 0, api.OK, "wwwd-", "new", true},
		{api.FaultOther, 9, api.OK, "wwwd-", "new", true},
		{api.FaultSlow, 0, api.ErrBusy, "w-wd-", "", false},
		{api.FaultDie, 0, api.ErrDead, "w-wd-", "", false},
	}
	for _, row := range rows {
		for _, force := range []bool{false, true} {
			var d *disk.Disk
			if row.kind == 0 {
				d, _ = withFault(t, api.FaultFail, 0)
			} else {
				d, _ = withFault(t, row.kind, row.to)
			}
			e := d.Write(0, 1, []byte("new"), force)
			pending, count := 1, 2
			if row.done && force {
				pending = 0
			} else if row.done {
				pending = 2
			}
			if row.e == api.OK {
				count++
			}
			now := look(d)
			if e != row.e || now.states != row.states || now.pending != pending || now.ops != 3 || now.dead != (row.kind == api.FaultDie) || now.stats != (api.Stats{Writes: count}) {
				t.Errorf("%+v, forced: %t: error %d, %+v", row, force, e, now)
			}
			if row.bytes != "" {
				reads(t, d, 0, 1, row.bytes)
			}
			if row.kind == api.FaultStray && row.to == 0 {
				reads(t, d, 0, 0, "new")
			} else if row.kind != api.FaultDie {
				reads(t, d, 0, 0, "old")
			}
			if row.kind == api.FaultStray && row.to == 3 {
				reads(t, d, 0, 3, "new")
			}
		}
	}
}

// P14.1: what a read of sector 0 returns with each fault.
func TestFaultsOfReads(t *testing.T) {
	rows := []struct {
		kind, to int
		e        api.Errno
		bytes    string
	}{
		{api.FaultDrop, 0, api.OK, "old"},
		{api.FaultTear, 0, api.OK, "old"},
		{api.FaultStray, 2, api.OK, "old"},
		{api.FaultFail, 0, api.ErrMedia, ""},
		{api.FaultOther, 0, api.OK, "old"},
		{api.FaultOther, 1, api.ErrMedia, ""},
		{api.FaultOther, 2, api.OK, "pen"},
		{api.FaultOther, 3, api.ErrMedia, ""},
		{api.FaultOther, 5, api.ErrMedia, ""},
		{api.FaultOther, math.MaxInt, api.ErrMedia, ""},
		{api.FaultSlow, 0, api.ErrBusy, ""},
		{api.FaultDie, 0, api.ErrDead, ""},
	}
	for _, row := range rows {
		d, _ := withFault(t, row.kind, row.to)
		b, e := d.Read(0, 0)
		count := 0
		if row.e == api.OK {
			count = 1
		}
		now := look(d)
		if string(b) != row.bytes || row.e != api.OK && b != nil || e != row.e {
			t.Errorf("%+v: Read = %q, %d", row, b, e)
		}
		if now.states != "w-wd-" || now.pending != 1 || now.ops != 3 || now.dead != (row.kind == api.FaultDie) || now.stats != (api.Stats{Reads: count, Writes: 2}) {
			t.Errorf("%+v: %+v", row, now)
		}
		if row.kind != api.FaultDie {
			reads(t, d, 0, 0, "old")
		}
	}
	d, _ := withFault(t, api.FaultOther, 0)
	reads(t, d, 0, 1, "old")
	is(t, "without a fault", noBytes(t, d, 0, 1), api.ErrMedia)
}

// P14.1: erasures and flushes have no other faults than slowness and death.
func TestFaultsOfErasuresAndFlushes(t *testing.T) {
	for kind := api.FaultDrop; kind <= api.FaultDie; kind++ {
		erased, _ := withFault(t, kind, 0)
		flushed, _ := withFault(t, kind, 0)
		e, f := erased.Erase(0, 0), flushed.Flush(0)
		want, states, pending := api.OK, "w----", 2
		stats := []api.Stats{{Writes: 2, Erases: 1}, {Writes: 2, Flushes: 1}}
		if kind >= api.FaultSlow {
			want, states, pending = api.ErrBusy, "w-wd-", 1
			stats = []api.Stats{{Writes: 2}, {Writes: 2}}
		}
		left := 0
		if kind == api.FaultSlow {
			left = 1
		}
		if kind == api.FaultDie {
			want, left = api.ErrDead, 1
		}
		died := kind == api.FaultDie
		if now := look(erased); e != want || now != (snapshot{states, 3, pending, died, stats[0]}) {
			t.Errorf("kind %d: Erase = %d, %+v", kind, e, now)
		}
		if now := look(flushed); f != want || now != (snapshot{"w-wd-", 3, left, died, stats[1]}) {
			t.Errorf("kind %d: Flush = %d, %+v", kind, f, now)
		}
	}
}

// P14.1: a sector or a band that does not exist, and more than 64 bytes, are errors with each fault that lets the operation proceed; the fault is used up by it.
func TestFaultsAfterErrors(t *testing.T) {
	for kind := api.FaultDrop; kind <= api.FaultOther; kind++ {
		for what, o := range map[string]func(d *disk.Disk) api.Errno{
			"read":  func(d *disk.Disk) api.Errno { return noBytes(t, d, 0, 5) },
			"write": func(d *disk.Disk) api.Errno { return d.Write(0, 5, make([]byte, 65), true) },
			"erase": func(d *disk.Disk) api.Errno { return d.Erase(0, 1) },
		} {
			d, _ := withFault(t, kind, 0)
			is(t, what, o(d), api.ErrRange)
			reads(t, d, 0, 0, "old")
			must(t, d.Write(0, 1, []byte("new"), false))
			reads(t, d, 0, 1, "new")
		}
		d, _ := withFault(t, kind, 0)
		is(t, "write of 65 bytes", d.Write(0, 0, make([]byte, 65), true), api.ErrLimit)
		is(t, "write of 128 bytes", d.Write(0, 0, make([]byte, 128), true), api.ErrLimit)
		reads(t, d, 0, 0, "old")
		if d.Pending() != 1 {
			t.Errorf("kind %d: %d are pending", kind, d.Pending())
		}
	}
}

// P14.1: a torn write leaves the first half of its bytes, and nothing of the old ones; it can be forced.
func TestTear(t *testing.T) {
	b := []byte("0123456789abcdefghijklmnopqrstuvwxyzABCDEFGHIJKLMNOPQRSTUVWXYZ-+")
	for n := range len(b) + 1 {
		for _, force := range []bool{false, true} {
			p := disk.NewPower()
			d := made(t, small, p, api.Fault{At: 1, Kind: api.FaultTear})
			must(t, d.Write(0, 0, bytes.Repeat([]byte("!"), 64), true))
			must(t, d.Write(0, 0, b[:n], force))
			reads(t, d, 0, 0, string(b[:n/2]))
			cut(t, p, d, 0, 0)
			if force {
				reads(t, d, 0, 0, string(b[:n/2]))
			} else {
				reads(t, d, 0, 0, string(bytes.Repeat([]byte("!"), 64)))
			}
		}
	}
}

// P14.1: a write that strays destroys the shadow of the sector that it reaches, not that of the one that it was meant for.
func TestStrayShadow(t *testing.T) {
	g := api.Geometry{Random: 1, Bands: 2, Tracks: 2, Sectors: 2, Overlap: 1}
	d := made(t, g, disk.NewPower(), api.Fault{At: 4, Kind: api.FaultStray, To: 6})
	for _, a := range []int{3, 4, 7, 8} {
		must(t, d.Write(0, a, []byte{byte(a)}, false))
	}
	must(t, d.Write(0, 1, []byte("stray"), false))
	if got := states(d); got != "---ww-wwd" {
		t.Errorf("the states are %s", got)
	}
	reads(t, d, 0, 6, "stray")
	reads(t, d, 0, 3, "\x03")
	reads(t, d, 0, 7, "\x07")
}

// P14.1: a fault belongs to one operation: all others of the disk are performed, and fenced ones do not take it.
func TestFaultsAreCounted(t *testing.T) {
	d := made(t, small, disk.NewPower(), api.Fault{At: 0, Kind: api.FaultSlow}, api.Fault{At: 2, Kind: api.FaultTear}, api.Fault{At: 3, Kind: api.FaultFail}, api.Fault{At: 5, Kind: api.FaultDrop}, api.Fault{At: 9, Kind: api.FaultDie})
	is(t, "operation 0", d.Write(0, 0, []byte("long"), false), api.ErrBusy)
	is(t, "fenced", d.Write(1, 0, []byte("long"), false), api.ErrFenced)
	must(t, d.Write(0, 0, []byte("long"), false))
	is(t, "fenced", d.Write(1, 0, []byte("fenced"), false), api.ErrFenced)
	must(t, d.Write(0, 1, []byte("torn"), false))
	is(t, "operation 3", noBytes(t, d, 0, 0), api.ErrMedia)
	reads(t, d, 0, 0, "long")
	must(t, d.Write(0, 0, []byte("drop"), false))
	reads(t, d, 0, 0, "long")
	reads(t, d, 0, 1, "to")
	must(t, d.Flush(0))
	if d.Dead() {
		t.Error("dead before operation 9")
	}
	is(t, "operation 9", d.Flush(0), api.ErrDead)
	if !d.Dead() || d.Ops() != 10 {
		t.Errorf("dead: %t after %d operations", d.Dead(), d.Ops())
	}
}

// P14.1: the numbers of faults go on after a power failure.
func TestFaultsAfterRestart(t *testing.T) {
	p := disk.NewPower()
	d := made(t, small, p, api.Fault{At: 2, Kind: api.FaultSlow})
	must(t, d.Flush(0))
	must(t, d.Flush(0))
	cut(t, p, d, 0, 0)
	is(t, "operation 2", d.Flush(0), api.ErrBusy)
	must(t, d.Flush(0))
}

// P14.1: a long list of faults: each operation has its own.
func TestManyFaults(t *testing.T) {
	const n = 100000
	faults := make([]api.Fault, n)
	for i := range faults {
		faults[i] = api.Fault{At: 2*i + 1, Kind: api.FaultSlow}
	}
	d := made(t, small, disk.NewPower(), faults...)
	for i := range 2 * n {
		want := api.OK
		if i%2 == 1 {
			want = api.ErrBusy
		}
		if e := d.Flush(0); e != want {
			t.Fatalf("operation %d: error %d, want %d", i, e, want)
		}
	}
	if d.Ops() != 2*n || d.Stats() != (api.Stats{Flushes: n}) {
		t.Errorf("%d operations, %+v", d.Ops(), d.Stats())
	}
}
