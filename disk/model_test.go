package disk_test

import (
	"slices"
	"testing"

	"tegula/api"
	"tegula/disk"
	"tegula/disktest"
)

// supply is what is known about a power supply: it tells its disks of a failure, where package disk counts failures.
type supply struct {
	off   bool
	fuse  []bool // an element for each call that passes, and one for the failure; nil if it is not armed
	disks []*known
}

func (s *supply) arm(n int) {
	if !s.off {
		s.fuse = nil
		if n >= 0 {
			s.fuse = make([]bool, n+1)
		}
	}
}

// call reports whether the power fails at a call.
func (s *supply) call() bool {
	if len(s.fuse) == 0 {
		return false
	}
	s.fuse = s.fuse[1:]
	if len(s.fuse) > 0 {
		return false
	}
	s.off = true
	for _, k := range s.disks {
		k.cut = true
	}
	return true
}

// known is what is known about a disk: all changes that have taken effect or are pending, which are replayed for each question, and all errors that it returned.
type known struct {
	g             api.Geometry
	faults        []api.Fault
	supply        *supply
	done, pending []change
	cut, dead     bool
	key           uint64
	ops           int
	stats         api.Stats
}

type change func(s disktest.Surface)

func know(g api.Geometry, faults []api.Fault, s *supply) *known {
	k := &known{g: g, faults: faults, supply: s}
	s.disks = append(s.disks, k)
	return k
}

// surface returns the contents after all changes.
func (k *known) surface() disktest.Surface {
	s := disktest.Blank(k.g)
	for _, c := range slices.Concat(k.done, k.pending) {
		c(s)
	}
	return s
}

func (k *known) settle(n int) {
	k.done = append(k.done, k.pending[:n]...)
	k.pending = nil
}

// begin does the steps 1 to 4 of an operation, and returns the kind of its fault and its other sector.
func (k *known) begin(key uint64) (kind, to int, e api.Errno) {
	switch {
	case k.dead:
		return 0, 0, api.ErrDead
	case k.supply.off || k.cut || k.supply.call():
		return 0, 0, api.ErrPower
	case k.key != key:
		return 0, 0, api.ErrFenced
	}
	for _, f := range k.faults {
		if f.At == k.ops {
			kind, to = f.Kind, f.To
		}
	}
	k.ops++
	switch kind {
	case api.FaultDie:
		k.dead = true
		return 0, 0, api.ErrDead
	case api.FaultSlow:
		return 0, 0, api.ErrBusy
	}
	return kind, to, api.OK
}

func (k *known) read(key uint64, a int) (string, api.Errno) {
	kind, to, e := k.begin(key)
	if e != api.OK {
		return "", e
	}
	s := k.surface()
	if a < 0 || a >= len(s) {
		return "", api.ErrRange
	}
	if kind == api.FaultOther {
		a = to
	}
	if kind == api.FaultFail || a >= len(s) || s[a].State != api.SectorWritten {
		return "", api.ErrMedia
	}
	k.stats.Reads++
	return s[a].Bytes, api.OK
}

func (k *known) write(key uint64, a int, b []byte, force bool) api.Errno {
	kind, to, e := k.begin(key)
	size := len(disktest.Blank(k.g))
	if e != api.OK {
		return e
	}
	if a < 0 || a >= size {
		return api.ErrRange
	}
	if len(b) > 64 {
		return api.ErrLimit
	}
	k.stats.Writes++
	if kind == api.FaultStray {
		a = to
	}
	if kind == api.FaultTear {
		b = b[:len(b)/2]
	}
	if kind == api.FaultDrop || a >= size {
		return api.OK
	}
	kept := slices.Clone(b)
	k.pending = append(k.pending, func(s disktest.Surface) { s.Write(a, k.g.Overlap, kept) })
	if force {
		k.settle(len(k.pending))
	}
	return api.OK
}

func (k *known) erase(key uint64, band int) api.Errno {
	_, _, e := k.begin(key)
	if e != api.OK {
		return e
	}
	if band < 0 || band >= k.g.Bands {
		return api.ErrRange
	}
	k.stats.Erases++
	k.pending = append(k.pending, func(s disktest.Surface) { s.Erase(band) })
	return api.OK
}

func (k *known) flush(key uint64) api.Errno {
	_, _, e := k.begin(key)
	if e == api.OK {
		k.stats.Flushes++
		k.settle(len(k.pending))
	}
	return e
}

func (k *known) acquire(key uint64) api.Errno {
	if k.dead {
		return api.ErrDead
	}
	if k.supply.off || k.cut {
		return api.ErrPower
	}
	k.key = key
	return api.OK
}

func (k *known) restart(keep int) api.Errno {
	if k.dead {
		return api.ErrDead
	}
	if !k.supply.off {
		return api.ErrState
	}
	k.settle(min(max(keep, 0), len(k.pending)))
	k.cut = false
	return api.OK
}

// same compares a disk with what is known about it.
func same(t *testing.T, d *disk.Disk, k *known) {
	t.Helper()
	want := snapshot{"", k.ops, len(k.pending), k.dead, k.stats}
	for _, x := range k.surface() {
		want.states += string("-wd"[x.State])
	}
	if got := look(d); got != want || d.Geometry() != k.g {
		t.Fatalf("%+v with the faults %v: %+v, want %+v", k.g, k.faults, got, want)
	}
}

// faultList returns a valid list of faults of the first operations; one in four leads to a sector that a small disk does not have.
func faultList(data *disktest.Numbers) []api.Fault {
	var l []api.Fault
	for at := 0; at < 150; at += data.Between(1, 12) {
		f := api.Fault{At: at, Kind: data.Between(api.FaultDrop, api.FaultSlow)}
		if f.Kind == api.FaultStray || f.Kind == api.FaultOther {
			f.To = data.Between(0, 20) * data.Between(0, 3)
		}
		l = append(l, f)
	}
	if data.Between(0, 3) == 0 {
		l = append(l, api.Fault{At: data.Between(150, 200), Kind: api.FaultDie})
	}
	return l
}

// system is some disks on two power supplies, and what is known about them.
type system struct {
	powers   []*disk.Power
	supplies []*supply
	disks    []*disk.Disk
	knowns   []*known
}

// connect adds a disk.
func (s *system) connect(t *testing.T, data *disktest.Numbers) {
	t.Helper()
	i, g := data.Between(0, 1), data.Geometry()
	var l []api.Fault
	if data.Between(0, 2) > 0 {
		l = faultList(data)
	}
	s.disks = append(s.disks, made(t, g, s.powers[i], l...))
	s.knowns = append(s.knowns, know(g, l, s.supplies[i]))
}

// operate does one operation on a disk, now and then with another key, with a wrong address or with too many bytes.
func operate(t *testing.T, data *disktest.Numbers, d *disk.Disk, k *known) {
	t.Helper()
	key := k.key
	if data.Between(0, 19) == 0 {
		key = uint64(data.Between(0, 3))
	}
	a := data.Between(0, len(disktest.Blank(k.g))-1)
	band := data.Between(0, k.g.Bands-1)
	if data.Between(0, 19) == 0 {
		a, band = 300-a*9, 40-band*30
	}
	switch data.Between(0, 9) {
	case 0:
		is(t, "Flush", d.Flush(key), k.flush(key))
	case 1:
		is(t, "Erase", d.Erase(key, band), k.erase(key, band))
	case 2, 3, 4:
		b, e := d.Read(key, a)
		want, wantError := k.read(key, a)
		if string(b) != want || e != wantError || e != api.OK && b != nil {
			t.Fatalf("Read(%d) = %q, %d, want %q, %d", a, b, e, want, wantError)
		}
	default:
		b := data.Bytes()
		if data.Between(0, 19) == 0 {
			b = make([]byte, 65)
		}
		force := data.Between(0, 4) == 0
		is(t, "Write", d.Write(key, a, b, force), k.write(key, a, b, force))
	}
}

// step does one call.
func (s *system) step(t *testing.T, data *disktest.Numbers) {
	t.Helper()
	i, j := data.Between(0, len(s.disks)-1), data.Between(0, 1)
	d, k := s.disks[i], s.knowns[i]
	switch choice := data.Between(0, 99); {
	case choice < 3:
		n := data.Between(-1, 15)
		s.powers[j].Arm(n)
		s.supplies[j].arm(n)
	case choice < 8:
		s.powers[j].On()
		s.supplies[j].off = false
	case choice < 20:
		keep := data.Between(-1, len(k.pending)+1)
		is(t, "Restart", d.Restart(keep), k.restart(keep))
	case choice < 23:
		key := uint64(data.Between(0, 3))
		is(t, "Acquire", d.Acquire(key), k.acquire(key))
	case choice == 23 && data.Between(0, 9) == 0:
		d.Kill()
		k.dead = true
	case choice == 24 && len(s.disks) < 6:
		s.connect(t, data)
	default:
		operate(t, data, d, k)
	}
}

// P14.1 to P14.4: after each of many calls of all kinds, on several disks and two power supplies, each disk is as it follows from the steps of the chapter.
func TestSequences(t *testing.T) {
	data := disktest.Numbers(1)
	died, failed := 0, 0
	for range 80 {
		s := &system{powers: []*disk.Power{disk.NewPower(), disk.NewPower()}, supplies: []*supply{{}, {}}}
		s.connect(t, &data)
		s.connect(t, &data)
		for range 400 {
			s.step(t, &data)
			for i, d := range s.disks {
				same(t, d, s.knowns[i])
			}
			for i, p := range s.powers {
				if p.Off() != s.supplies[i].off {
					t.Fatalf("power supply %d: off: %t", i, p.Off())
				}
				if p.Off() {
					failed++
				}
			}
			if t.Failed() {
				return
			}
		}
		for _, d := range s.disks {
			if d.Dead() {
				died++
			}
		}
	}
	if died < 10 || failed < 1000 {
		t.Errorf("%d disks died, the power was off after %d steps: too few to tell", died, failed)
	}
}

// contents returns the bytes of all sectors, which may be in error.
type contents struct {
	d   *disk.Disk
	key uint64
}

func (c contents) State(a int) int                { return c.d.State(a) }
func (c contents) Read(a int) ([]byte, api.Errno) { return c.d.Read(c.key, a) }

// apply does one change of a disk, and returns what it is on a surface and whether it makes everything durable.
func apply(t *testing.T, data *disktest.Numbers, d *disk.Disk, key uint64) (c change, durable bool) {
	t.Helper()
	g := d.Geometry()
	switch data.Between(0, 9) {
	case 0:
		must(t, d.Flush(key))
		return func(disktest.Surface) {}, true
	case 1:
		band := data.Between(0, g.Bands-1)
		must(t, d.Erase(key, band))
		return func(s disktest.Surface) { s.Erase(band) }, false
	default:
		a, b, force := data.Between(0, len(disktest.Blank(g))-1), data.Bytes(), data.Between(0, 9) == 0
		must(t, d.Write(key, a, b, force))
		return func(s disktest.Surface) { s.Write(a, g.Overlap, b) }, force
	}
}

// P14.2: without faults, whatever number of operations a power failure leaves, the contents are those after a prefix of the operations that contains all before the last flush or forced write; so it is again after each restart.
func TestDurability(t *testing.T) {
	data := disktest.Numbers(2)
	for _, g := range disktest.Geometries() {
		p := disk.NewPower()
		d, key := made(t, g, p), uint64(0)
		var done []change
		for range 8 {
			safe, n := len(done), data.Between(0, 20)
			for range n {
				c, durable := apply(t, &data, d, key)
				done = append(done, c)
				if durable {
					safe = len(done)
				}
			}
			keep := data.Between(-1, n+1)
			if d.Pending() != len(done)-safe {
				t.Fatalf("%+v: %d are pending, want %d", g, d.Pending(), len(done)-safe)
			}
			p.Arm(0)
			is(t, "the operation at which the power fails", d.Write(key, 0, []byte("never"), true), api.ErrPower)
			must(t, d.Restart(keep))
			p.On()
			done = done[:min(safe+max(keep, 0), len(done))]
			s := disktest.Blank(g)
			for _, c := range done {
				c(s)
			}
			if diff := s.Difference(contents{d, key}); diff != "" {
				t.Fatalf("%+v, %d of the operations are safe, keep is %d: %s", g, safe, keep, diff)
			}
			key++
			must(t, d.Acquire(key))
		}
	}
}
