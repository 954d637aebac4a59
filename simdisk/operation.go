package simdisk

import (
	"errors"
	"slices"

	"gazette/api"
)

// refusal is an operation that is not done, and why.
type refusal struct {
	operation string
	number    api.Errno
}

func (r *refusal) Error() string { return r.operation + ": " + r.number.Error() }

func (r *refusal) Unwrap() error { return r.number }

// operation is what is asked of a disk: each kind has a method that tells why it can't be done (nil: it can), and one that does it.
type operation struct {
	disk *Disk
	name string
	to   string
	b    []byte
	n    int
}

// operate does an operation, unless the disk is down, it is refused, or it trips.
func (d *Disk) operate(refuses func() error, do func()) api.Errno {
	err := d.tried(refuses, d.trips.strikes)
	var number api.Errno
	if errors.As(err, &number) {
		return number
	}
	do()
	return api.OK
}

// tried asks first whether the operation is refused: one that is does not count for the next one to trip.
func (d *Disk) tried(refuses func() error, trips func() bool) error {
	if d.down {
		return &refusal{"any", api.ErrSimdiskDown}
	}
	if err := refuses(); err != nil {
		return err
	}
	if trips() {
		d.down = true
		return &refusal{"trip", api.ErrSimdiskDown}
	}
	return nil
}

// Append puts bytes behind a file's.
func (d *Disk) Append(name string, b []byte) api.Errno {
	o := operation{disk: d, name: name, b: b}
	return d.operate(o.refusesAppend, o.append)
}

func (o operation) refusesAppend() error {
	d := o.disk
	if !isName(o.name) {
		return &refusal{"append", api.ErrSimdiskName}
	}
	fails := d.fails.strikes()
	noFile := d.files[o.name] == nil && len(d.files) >= api.MaxFiles
	if fails || noFile || len(o.b) > d.room-d.Used() {
		return &refusal{"append", api.ErrSimdiskFull}
	}
	return nil
}

func (o operation) append() {
	f := o.disk.files[o.name]
	if f == nil {
		f = &file{}
		o.disk.files[o.name] = f
	}
	f.bytes = append(f.bytes, o.b...)
}

// Truncate cuts a file.
func (d *Disk) Truncate(name string, n int) api.Errno {
	o := operation{disk: d, name: name, n: n}
	return d.operate(o.refusesTruncate, o.truncate)
}

func (o operation) refusesTruncate() error {
	if err := o.refusesNone(); err != nil {
		return err
	}
	if o.n < 0 || o.n > len(o.disk.files[o.name].bytes) {
		return &refusal{"truncate", api.ErrArg}
	}
	return nil
}

func (o operation) truncate() {
	f := o.disk.files[o.name]
	f.bytes = slices.Clone(f.bytes[:o.n])
	f.synced = min(f.synced, o.n)
}

// Sync makes a file's bytes synced.
func (d *Disk) Sync(name string) api.Errno {
	o := operation{disk: d, name: name}
	return d.operate(o.refusesNone, o.sync)
}

func (o operation) refusesNone() error {
	if o.disk.files[o.name] == nil {
		return &refusal{"file", api.ErrSimdiskNone}
	}
	return nil
}

func (o operation) sync() {
	f := o.disk.files[o.name]
	f.synced = len(f.bytes)
}

// Rename gives a file another name.
func (d *Disk) Rename(from string, to string) api.Errno {
	o := operation{disk: d, name: from, to: to}
	return d.operate(o.refusesRename, o.rename)
}

func (o operation) refusesRename() error {
	if err := o.refusesNone(); err != nil {
		return err
	}
	if !isName(o.to) {
		return &refusal{"rename", api.ErrSimdiskName}
	}
	return nil
}

func (o operation) rename() {
	f := o.disk.files[o.name]
	delete(o.disk.files, o.name)
	o.disk.files[o.to] = f
}

// Remove takes a file away.
func (d *Disk) Remove(name string) api.Errno {
	o := operation{disk: d, name: name}
	return d.operate(o.refusesNone, o.remove)
}

func (o operation) remove() { delete(o.disk.files, o.name) }
