package disk

import (
	"testing"

	"surety/api"
)

// spoil fills a row and the room behind its length.
func spoil(b []byte) {
	b = b[:cap(b)]
	for i := range b {
		b[i] = '#'
	}
}

// R4: what is handed in is neither changed nor kept, and the room behind it isn't read.
func TestNothingHandedInIsKeptOrChanged(t *testing.T) {
	d := New()
	for _, lay := range []func(name string, b []byte) api.Errno{d.Write, d.Append} {
		room := []byte("abcdef")
		must(t, lay("f", room[:3]), d.Append("f", []byte("xyz")))
		if string(room) != "abcdef" {
			t.Errorf("it is changed: %q", room)
		}
		b, _ := d.Read("f")
		spoil(room)
		if c, _ := d.Read("f"); string(c) != string(b) {
			t.Errorf("it is kept: %q", c)
		}
	}
	holds(t, d, "f", "abcxyzabcxyz")
	must(t, d.Sync("f"), d.Append("f", []byte("!")))
	survives(t, d, 0, "f", "abcxyzabcxyz")
}

// P17.2, R4: Read and Names answer new memory.
func TestWhatIsAnsweredIsNewMemory(t *testing.T) {
	d := laid(t)
	first, _ := d.Read("f")
	second, _ := d.Read("f")
	spoil(first)
	if string(second) != "older" {
		t.Error("two answers share memory")
	}
	holds(t, d, "f", "older", "g", "gee", "h", "hot")
	survives(t, d, 0, "f", "old", "g", "gee", "h", "")
	must(t, d.Append("f", []byte("!")))
	if string(second) != "older" {
		t.Error("an answer is changed later")
	}
	names := d.Names()
	for i := range names[:cap(names)] {
		names[:cap(names)][i] = "none"
	}
	holds(t, d, "f", "older!", "g", "gee", "h", "hot")
}

// P17.2: Copy: each kind of change of the one leaves the other alone.
func TestCopiesStandAlone(t *testing.T) {
	for _, c := range changes() {
		d := laid(t)
		e := d.Copy()
		f := e.Copy()
		must(t, c.do(e))
		holds(t, e, c.done...)
		for _, x := range []*Disk{d, f} {
			holds(t, x, "f", "older", "g", "gee", "h", "hot")
			survives(t, x, 0, "f", "old", "g", "gee", "h", "")
			if x.Ops() != opsOfLaid || e.Ops() != opsOfLaid+1 {
				t.Errorf("%s: %d and %d changes", c.name, x.Ops(), e.Ops())
			}
		}
	}
	d := laid(t)
	e := d.Copy()
	must(t, d.Append("h", []byte("1")), e.Append("h", []byte("2")), d.Append("h", []byte("3")))
	holds(t, d, "f", "older", "g", "gee", "h", "hot13")
	holds(t, e, "f", "older", "g", "gee", "h", "hot2")
}

// P17.2: a copy has the power and the fuse that there are, of its own.
func TestCopyOfPowerAndFuse(t *testing.T) {
	d := laid(t)
	must(t, d.Fuse(3), d.Sync("f"))
	c := d.Copy()
	must(t, d.Fuse(0), c.Sync("f"))
	if c.Sync("f") != api.ErrCrash || d.Dead() {
		t.Error("the fuse")
	}
	must(t, d.Sync("f"), d.Sync("f"))
	dead := c.Copy()
	c.Boot(0)
	if !dead.Dead() || c.Dead() {
		t.Error("the power")
	}
	e, n := New().Copy(), (&Disk{}).Copy()
	must(t, e.Write("f", nil), n.Write("f", nil))
}

// R5: a call that answers an error but of the fuse has changed nothing.
func TestErrorsChangeNothing(t *testing.T) {
	d := laid(t)
	must(t, d.Fuse(2))
	long := make([]byte, api.MaxFile)
	for _, e := range []api.Errno{d.Write("", nil), d.Append("f", long), d.Sync("i"), d.Rename("i", "f"), d.Rename("f", ""), d.Remove("i")} {
		if e == api.OK {
			t.Error("no error")
		}
	}
	holds(t, d, "f", "older", "g", "gee", "h", "hot")
	survives(t, d, 0, "f", "old", "g", "gee", "h", "")
	must(t, d.Sync("f"))
	if d.Sync("f") != api.ErrCrash || d.Ops() != opsOfLaid+2 {
		t.Error("the fuse is another one")
	}
}
