package disk

import (
	"math"

	"headland/api"
)

// Loss says when power goes, and what is kept of the open writes.
type Loss = api.Loss

const (
	all  = math.MaxUint64 // of Keep: each open write
	none = -1             // of Torn: no open write
)

// Arm lets the power go at a later call.
func (d *Disk) Arm(l Loss) {
	if !d.down {
		d.armed = l
	}
}

// Cut lets it go now.
func (d *Disk) Cut(l Loss) { d.turn(true, l) }

// Restart brings it back.
func (d *Disk) Restart() { d.turn(false, Loss{}) }

// Down is whether it is gone.
func (d *Disk) Down() bool { return d.down }

// Life is how often it went.
func (d *Disk) Life() int { return d.life }

// turn takes or gives the power: where it is so already, open writes and what is armed stay.
func (d *Disk) turn(down bool, l Loss) {
	switch {
	case down == d.down:
	case down:
		d.settle(l)
		d.life++
		fallthrough
	default:
		d.armed = Loss{}
		d.down = down
	}
}

// fails counts a call that is not refused, and is whether the power went at it.
func (d *Disk) fails() bool {
	if d.armed.After < 1 {
		return false
	}
	d.armed.After--
	if d.armed.After > 0 {
		return false
	}
	d.turn(true, d.armed)
	return true
}

// settle keeps for good what a Loss says of the open writes, and ends them.
func (d *Disk) settle(l Loss) {
	for i, w := range d.open {
		b := &d.blocks[w.at]
		b.kept = laid(b.kept, w.bytes, keptBytes(l, i))
		b.open = nil
	}
	d.open = nil
}

// keptBytes is how many bytes are kept of the open write with that number.
func keptBytes(l Loss, number int) int {
	switch {
	case number == l.Torn:
		return min(max(l.Cut, 0), api.Block)
	case l.Keep>>(number%64)&1 == 1:
		return api.Block
	}
	return 0
}

// laid is a block's bytes with the first ones of a write over them.
func laid(old, b []byte, size int) []byte {
	switch size {
	case 0:
		return old
	case api.Block:
		return b
	}
	w := whole(old)
	copy(w, whole(b)[:size])
	return w
}
