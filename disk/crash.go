package disk

import "regatta/api"

// gate is asked by each call what it answers: what it does with the files, and
// what it would answer if the disk let all through.
type gate func(does act, would api.Errno) api.Errno

type act int

const (
	look   act = iota
	change     // Write, Sync, Remove, Rename: what Arm counts
)

// alive lets all through.
func (d *Disk) alive(does act, would api.Errno) api.Errno { return would }

// armed lets as many changes through as are left, and dies at the next one.
func (d *Disk) armed(does act, would api.Errno) api.Errno {
	if does == look || would != api.OK {
		return would
	}
	if d.left == 0 {
		d.may = d.dead
		return api.ErrDead
	}
	d.left--
	return api.OK
}

// dead lets nothing through, whatever else is wrong with the call.
func (d *Disk) dead(does act, would api.Errno) api.Errno { return api.ErrDead }

// Arm: behind n further changes the disk dies at the next one.
func (d *Disk) Arm(n int) {
	// Only Crash brings a dead disk to life, and then nothing is armed.
	if d.Dead() {
		return
	}
	d.left = max(n, 0)
	d.may = d.armed
}

// Dead: did the disk die since the last Crash?
func (d *Disk) Dead() bool { return d.may(look, api.OK) == api.ErrDead }

// Crash: each file is what was synced of it, and as much of the rest as keep says.
func (d *Disk) Crash(keep []int) {
	torn := 0
	for _, name := range d.names() {
		f := d.files[name]
		if f.synced == len(f.bytes) {
			continue
		}
		stays := 0
		if torn < len(keep) {
			stays = keep[torn]
		}
		torn++
		d.size -= f.tear(stays)
	}
	d.may = d.alive
}

// tear leaves of what is not synced the first stays bytes, and tells how many went.
func (f *file) tear(stays int) int {
	loose := len(f.bytes) - f.synced
	stays = min(max(stays, 0), loose)
	f.synced += stays
	f.bytes = f.bytes[:f.synced]
	return loose - stays
}
