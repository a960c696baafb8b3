package disk

import "surety/api"

// lay makes the change after which the file has head's bytes, and b behind them.
func (d *Disk) lay(name, head string, b []byte) api.Errno {
	if len(head)+len(b) > api.MaxFile {
		return api.ErrLong
	}
	return d.change(true, func() {
		if d.files == nil {
			d.files = map[string]file{}
		}
		d.files[name] = file{bytes: head + string(b), safe: d.files[name].safe}
	})
}

// changeOf makes a change of a file that must be there, of which nothing is done if it burns the fuse.
func (d *Disk) changeOf(name string, do func(f file)) api.Errno {
	f, ok := d.files[name]
	if !ok {
		return api.ErrNone
	}
	return d.change(false, func() { do(f) })
}

// change makes a change that nothing stands against: the next number, which may be the fuse's. stays: it is done also where it burns the fuse.
func (d *Disk) change(stays bool, do func()) (e api.Errno) {
	burns := d.fuse == 1
	defer func() {
		d.ops++
		d.fuse = max(d.fuse-1, 0)
		if burns {
			d.dead, e = true, api.ErrCrash
		}
	}()
	if stays || !burns {
		do()
	}
	return api.OK
}

// Fuse says which change from now on burns the fuse.
func (d *Disk) Fuse(n int) api.Errno {
	if e := d.refusal(); e != api.OK {
		return e
	}
	d.fuse = max(n, 0)
	return api.OK
}
