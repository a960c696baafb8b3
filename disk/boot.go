package disk

import (
	"iter"
	"strings"
)

// Boot lets the power come back: of what wasn't synced it is keep that says how much is left.
func (d *Disk) Boot(keep int) {
	if d == nil {
		return
	}
	d.fuse, d.dead = 0, false
	for name, f := range d.loose() {
		left := f.left(keep)
		d.files[name] = file{bytes: left, safe: left}
	}
}

// loose goes through the files that aren't safe as they are, by the order of the names.
func (d *Disk) loose() iter.Seq2[string, file] {
	return func(yield func(name string, f file) bool) {
		for _, name := range d.Names() {
			if f := d.files[name]; f.bytes != f.safe && !yield(name, f) {
				return
			}
		}
	}
}

// left is what there is of f's bytes when the power comes back.
func (f file) left(keep int) string {
	sure := 0
	if strings.HasPrefix(f.bytes, f.safe) {
		sure = len(f.safe)
	}
	return f.bytes[:sure+remainder(keep, len(f.bytes)-sure+1)]
}

// remainder is that of n by m, from 0 on, also of an n below 0.
func remainder(n, m int) int { return (n%m + m) % m }
