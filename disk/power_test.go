package disk_test

import (
	"math"
	"testing"

	"tegula/api"
	"tegula/disk"
	"tegula/disktest"
)

// P14.1: armed with n, the power passes n calls of operations of all its disks and fails at the next one, which has no effect.
func TestArm(t *testing.T) {
	for n := range 12 {
		p := disk.NewPower()
		disks := []*disk.Disk{made(t, small, p), made(t, small, p), made(t, small, p)}
		for _, d := range disks {
			must(t, d.Write(0, 0, []byte("old"), true))
		}
		p.Arm(n)
		for i := range n {
			o := calls()[i%5]
			is(t, o.name, o.call(disks[i%3], 0), api.OK)
			if p.Off() {
				t.Fatalf("armed with %d, the power is off after %d operations", n, i+1)
			}
		}
		for _, o := range calls() {
			before := look(disks[n%3])
			is(t, o.name, o.call(disks[n%3], 0), api.ErrPower)
			if !p.Off() || look(disks[n%3]) != before {
				t.Errorf("armed with %d: %+v, before %+v, off: %t", n, look(disks[n%3]), before, p.Off())
			}
		}
	}
}

// P14.1: each operation can be the one at which the power fails.
func TestArmAtEach(t *testing.T) {
	for _, o := range calls() {
		p := disk.NewPower()
		d := made(t, small, p)
		must(t, d.Write(0, 0, []byte("old"), false))
		before := look(d)
		p.Arm(0)
		is(t, o.name, o.call(d, 0), api.ErrPower)
		if !p.Off() || look(d) != before {
			t.Errorf("%s: %+v, before %+v, off: %t", o.name, look(d), before, p.Off())
		}
	}
}

// P14.1: a number replaces the one before, a negative one disarms the power supply, and On leaves it armed.
func TestArmAgain(t *testing.T) {
	p := disk.NewPower()
	d := made(t, small, p)
	for _, n := range []int{-1, math.MinInt, math.MaxInt, 1 << 32} {
		p.Arm(0)
		p.Arm(n)
		for range 20 {
			must(t, d.Flush(0))
		}
	}
	p.Arm(1)
	must(t, d.Flush(0))
	p.Arm(2)
	p.On()
	must(t, d.Flush(0))
	must(t, d.Flush(0))
	is(t, "the third operation", d.Flush(0), api.ErrPower)
}

// P14.1: a power supply that is off cannot be armed, and it is not armed any longer after it has failed.
func TestArmWhileOff(t *testing.T) {
	p := disk.NewPower()
	d := made(t, small, p)
	fail(t, p, d, 0)
	for _, n := range []int{0, 1, 5, -1} {
		p.Arm(n)
		if !p.Off() {
			t.Errorf("Arm(%d) switched the power on", n)
		}
		must(t, d.Restart(0))
	}
	p.Arm(0)
	p.On()
	for range 20 {
		must(t, d.Flush(0))
	}
	if p.Off() {
		t.Error("the power is off")
	}
}

// P14.1: calls for the power supply are those of operations of ready disks, also of operations that return an error later; nothing else is.
func TestCallsForPower(t *testing.T) {
	p := disk.NewPower()
	late := made(t, small, p)
	fail(t, p, late, 0)
	p.On()
	dead := made(t, small, p)
	dead.Kill()
	d := made(t, small, p, api.Fault{At: 3, Kind: api.FaultSlow}, api.Fault{At: 4, Kind: api.FaultDie})
	calling := []func() api.Errno{
		func() api.Errno { return d.Flush(9) },
		func() api.Errno { return noBytes(t, d, 0, 5) },
		func() api.Errno { return noBytes(t, d, 0, 0) },
		func() api.Errno { return d.Write(0, 0, make([]byte, 65), false) },
		func() api.Errno { return d.Flush(0) },
		func() api.Errno { return d.Flush(0) },
	}
	for i, want := range []api.Errno{api.ErrFenced, api.ErrRange, api.ErrMedia, api.ErrLimit, api.ErrBusy, api.ErrDead} {
		p.Arm(1)
		is(t, "late", late.Flush(0), api.ErrPower)
		is(t, "dead", dead.Flush(0), api.ErrDead)
		must(t, d.Acquire(7))
		must(t, d.Acquire(0))
		is(t, "Restart", d.Restart(0), api.ErrState)
		look(d)
		is(t, "calling", calling[i](), want)
		is(t, "the next one", made(t, small, p).Flush(0), api.ErrPower)
		if !p.Off() {
			t.Fatalf("call %d did not count for the power supply", i)
		}
		if !d.Dead() {
			must(t, d.Restart(0))
		}
		p.On()
	}
}

// P14.1: a disk that was created while the power was off is ready as soon as the power is on.
func TestNewWhileOff(t *testing.T) {
	p := disk.NewPower()
	fail(t, p, made(t, small, p), 0)
	d, restarted := made(t, small, p), made(t, small, p)
	is(t, "Flush", d.Flush(0), api.ErrPower)
	is(t, "Acquire", d.Acquire(1), api.ErrPower)
	must(t, restarted.Restart(0))
	p.On()
	must(t, d.Flush(0))
	must(t, d.Acquire(1))
	must(t, restarted.Flush(0))
}

// P14.1: Restart returns ErrDead, otherwise ErrState while the power is on, and then leaves everything as it is.
func TestRestartErrors(t *testing.T) {
	p := disk.NewPower()
	d, dead := made(t, small, p), made(t, small, p)
	must(t, d.Write(0, 0, []byte("a"), false))
	must(t, dead.Write(0, 0, []byte("a"), false))
	dead.Kill()
	before := look(d)
	for _, keep := range []int{math.MinInt, -1, 0, 1, 2, math.MaxInt} {
		is(t, "Restart", d.Restart(keep), api.ErrState)
		is(t, "Restart of a dead disk", dead.Restart(keep), api.ErrDead)
	}
	if look(d) != before {
		t.Errorf("%+v, before %+v", look(d), before)
	}
	must(t, d.Flush(0))
	fail(t, p, d, 0)
	is(t, "Restart of a dead disk", dead.Restart(0), api.ErrDead)
	if dead.Pending() != 1 || states(dead) != "w----" {
		t.Error("Restart has changed a dead disk")
	}
}

// P14.1: a disk that was not restarted while the power was off is not ready until the power is off again and it is restarted. It keeps what is pending until then.
func TestNotRestarted(t *testing.T) {
	p := disk.NewPower()
	d, other := made(t, small, p), made(t, small, p)
	must(t, d.Write(0, 0, []byte("a"), false))
	must(t, d.Write(0, 1, []byte("b"), false))
	before := look(d)
	for range 3 {
		fail(t, p, other, 0)
		must(t, other.Restart(0))
		p.On()
		p.On()
		must(t, other.Flush(0))
		for _, o := range calls() {
			is(t, o.name, o.call(d, 0), api.ErrPower)
		}
		is(t, "Acquire", d.Acquire(1), api.ErrPower)
		is(t, "Restart", d.Restart(1), api.ErrState)
		if look(d) != before {
			t.Errorf("%+v, before %+v", look(d), before)
		}
	}
	fail(t, p, other, 0)
	must(t, d.Restart(1))
	is(t, "before the power is on", d.Flush(0), api.ErrPower)
	p.On()
	must(t, d.Flush(0))
	if states(d) != "w----" {
		t.Errorf("the states are %s", states(d))
	}
}

// P14.1: a failure of the power leaves the contents and the pending operations as they are; Restart cuts them, and once more has nothing left to cut.
func TestRestartCuts(t *testing.T) {
	for keep, want := range map[int]string{math.MinInt: "-----", -1: "-----", 0: "-----", 1: "w----", 2: "w-wd-", 3: "w----", 4: "w--wd", 5: "w--wd", math.MaxInt: "w--wd"} {
		p := disk.NewPower()
		d := made(t, small, p)
		must(t, d.Write(0, 0, []byte("a"), false))
		must(t, d.Write(0, 2, []byte("b"), false))
		must(t, d.Erase(0, 0))
		must(t, d.Write(0, 3, []byte("c"), false))
		fail(t, p, d, 0)
		if states(d) != "w--wd" || d.Pending() != 4 {
			t.Errorf("before Restart: the states are %s, %d are pending", states(d), d.Pending())
		}
		must(t, d.Restart(keep))
		must(t, d.Restart(0))
		if states(d) != want || d.Pending() != 0 {
			t.Errorf("Restart(%d): the states are %s, want %s; %d are pending", keep, states(d), want, d.Pending())
		}
		if d.Ops() != 4 || d.Stats() != (api.Stats{Writes: 3, Erases: 1}) {
			t.Errorf("Restart(%d): %d operations, %+v", keep, d.Ops(), d.Stats())
		}
		p.On()
		must(t, d.Flush(0))
		if states(d) != want {
			t.Errorf("Restart(%d): the states are %s after a flush", keep, states(d))
		}
	}
}

// P14.3: each operation with an old key returns ErrFenced and has no effect, is not counted and takes no fault; with the new key it succeeds.
func TestFencing(t *testing.T) {
	for _, old := range []uint64{0, 1, math.MaxUint64} {
		for _, key := range []uint64{0, 1, 2, math.MaxUint64} {
			for _, o := range calls() {
				d := made(t, small, disk.NewPower(), api.Fault{At: 2, Kind: api.FaultSlow})
				must(t, d.Acquire(old))
				must(t, d.Write(old, 0, []byte("a"), true))
				must(t, d.Write(old, 3, []byte("b"), false))
				must(t, d.Acquire(key))
				before := look(d)
				if key != old {
					is(t, o.name, o.call(d, old), api.ErrFenced)
					is(t, o.name, o.call(d, key+5), api.ErrFenced)
				}
				if look(d) != before {
					t.Errorf("%s: %+v, before %+v", o.name, look(d), before)
				}
				is(t, o.name, o.call(d, key), api.ErrBusy)
				is(t, o.name, o.call(d, key), api.OK)
			}
		}
	}
}

// P14.3: the key is durable at once, whatever a power failure leaves of the operations; a disk without power keeps it.
func TestKeyIsDurable(t *testing.T) {
	p := disk.NewPower()
	d := made(t, small, p)
	must(t, d.Write(0, 0, []byte("a"), false))
	ops := d.Ops()
	must(t, d.Acquire(5))
	if d.Ops() != ops || d.Stats() != (api.Stats{Writes: 1}) {
		t.Error("Acquire is counted")
	}
	fail(t, p, d, 5)
	is(t, "Acquire without power", d.Acquire(6), api.ErrPower)
	must(t, d.Restart(0))
	is(t, "Acquire of a restarted disk without power", d.Acquire(6), api.ErrPower)
	p.On()
	is(t, "the first key", d.Flush(0), api.ErrFenced)
	is(t, "the refused key", d.Flush(6), api.ErrFenced)
	must(t, d.Flush(5))
}

// P14.4: the faults and the death of a disk leave the others on its power supply as they are, and each disk has sectors, numbers and a key of its own.
func TestIndependence(t *testing.T) {
	data := disktest.Numbers(8)
	for _, g := range disktest.Geometries() {
		p := disk.NewPower()
		var faults []api.Fault
		for at := range 30 {
			faults = append(faults, api.Fault{At: at, Kind: 1 + at%6, To: 0})
		}
		bad := made(t, g, p, append(faults, api.Fault{At: 30, Kind: api.FaultDie})...)
		killed, good := made(t, g, p), made(t, g, p)
		must(t, killed.Acquire(4))
		killed.Kill()
		s := disktest.Blank(g)
		for range 40 {
			a, b := data.Between(0, len(s)-1), data.Bytes()
			must(t, good.Write(0, a, b, false))
			s.Write(a, g.Overlap, b)
			bad.Write(0, data.Between(0, len(s)-1), data.Bytes(), true)
			is(t, "killed", killed.Write(4, a, b, true), api.ErrDead)
		}
		if !bad.Dead() || good.Dead() || good.Ops() != 40 || good.Pending() != 40 || killed.Ops() != 0 {
			t.Fatalf("%+v: %+v, %+v, %+v", g, look(bad), look(good), look(killed))
		}
		for a, want := range s {
			if killed.State(a) != api.SectorBlank || good.State(a) != want.State {
				t.Fatalf("%+v: sector %d has the states %d and %d", g, a, killed.State(a), good.State(a))
			}
			if want.State == api.SectorWritten {
				reads(t, good, 0, a, want.Bytes)
			}
		}
	}
}

// P14.4: a failure of the power concerns all disks of the power supply, which can be restarted in any way, and no disk of another one.
func TestFailureConcernsAll(t *testing.T) {
	p, q := disk.NewPower(), disk.NewPower()
	disks := []*disk.Disk{made(t, small, p), made(t, small, p), made(t, small, p)}
	other := made(t, small, q)
	for _, d := range append(disks, other) {
		must(t, d.Write(0, 0, []byte("a"), false))
		must(t, d.Write(0, 1, []byte("b"), false))
	}
	p.Arm(0)
	must(t, other.Flush(0))
	is(t, "the operation at which the power fails", disks[1].Flush(0), api.ErrPower)
	for i, d := range disks {
		is(t, "Flush", d.Flush(0), api.ErrPower)
		must(t, d.Restart(i))
	}
	must(t, other.Flush(0))
	must(t, other.Acquire(1))
	is(t, "Restart of a disk with power", other.Restart(0), api.ErrState)
	if q.Off() {
		t.Error("the other power supply is off")
	}
	p.On()
	for i, want := range []string{"-----", "w----", "ww---"} {
		must(t, disks[i].Flush(0))
		if states(disks[i]) != want {
			t.Errorf("disk %d: the states are %s, want %s", i, states(disks[i]), want)
		}
	}
}
