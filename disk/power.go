package disk

// Power is the power supply of disks. Its zero value is on and not armed.
type Power struct {
	off      bool
	armed    bool // only while it is on
	calls    int  // calls that pass before it fails, if it is armed
	failures int
}

// NewPower returns a power supply that is on.
func NewPower() *Power { return &Power{} }

// Arm lets the power fail after some operations.
func (p *Power) Arm(n int) {
	if p == nil || p.off {
		return
	}
	p.armed, p.calls = n >= 0, n
}

// Off reports whether the power is off.
func (p *Power) Off() bool { return p != nil && p.off }

// On switches the power on.
func (p *Power) On() {
	if p != nil {
		p.off = false
	}
}

// serves reports whether a disk that was created or restarted after this number of failures is ready. A disk that New did not make has no power supply and is never ready.
func (p *Power) serves(failures int) bool {
	return p != nil && !p.off && p.failures == failures
}

// call takes the call of an operation while the power is on, and reports whether the power has not failed at it.
func (p *Power) call() bool {
	if !p.armed {
		return true
	}
	if p.calls > 0 {
		p.calls--
		return true
	}
	p.off, p.armed = true, false
	p.failures++
	return false
}
