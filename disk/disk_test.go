package disk

import (
	"bytes"
	"math"
	"slices"
	"strings"
	"testing"

	"surety/api"
)

// holds asks a disk whether its files are just these: name, bytes, name, bytes, by the order of the names.
func holds(t *testing.T, d *Disk, files ...string) {
	t.Helper()
	var got []string
	for _, name := range d.Names() {
		b, e := d.Read(name)
		if e != api.OK {
			t.Errorf("Read(%q): %d", name, e)
		}
		got = append(got, name, string(b))
	}
	if !slices.Equal(got, files) {
		t.Errorf("files %q, not %q", got, files)
	}
}

// survives asks what is left of a disk's files for a keep; the disk stays as it is.
func survives(t *testing.T, d *Disk, keep int, files ...string) {
	t.Helper()
	c := d.Copy()
	c.Boot(keep)
	holds(t, c, files...)
}

func must(t *testing.T, errs ...api.Errno) {
	t.Helper()
	for i, e := range errs {
		if e != api.OK {
			t.Fatalf("call %d: %d", i, e)
		}
	}
}

// P17: the document's example.
func TestExample(t *testing.T) {
	d := New()
	must(t, d.Write("f", []byte("ab")), d.Sync("f"), d.Append("f", []byte("cd")))
	d.Boot(1)
	holds(t, d, "f", "abc")
}

// P17.1: a new disk.
func TestNew(t *testing.T) {
	for _, d := range []*Disk{New(), {}} {
		holds(t, d)
		if d.Dead() || d.Ops() != 0 {
			t.Error("dead, or changed")
		}
		for i := range 100 {
			must(t, d.Write("f", []byte{byte(i)}))
		}
		if d.Ops() != 100 {
			t.Errorf("%d changes", d.Ops())
		}
	}
	d := New()
	must(t, d.Write("f", nil))
	holds(t, New())
}

// P17.1: Write, Append.
func TestWriteAndAppend(t *testing.T) {
	d := New()
	must(t, d.Write("b", []byte("one")), d.Append("a", []byte("x\x00\xff")), d.Append("b", []byte("two")), d.Append("a", nil), d.Append("c", nil), d.Write("B", []byte{}))
	holds(t, d, "B", "", "a", "x\x00\xff", "b", "onetwo", "c", "")
	must(t, d.Write("b", []byte("3")), d.Write("a", nil))
	holds(t, d, "B", "", "a", "", "b", "3", "c", "")
	if d.Ops() != 8 {
		t.Errorf("%d changes", d.Ops())
	}
	survives(t, d, 0, "B", "", "a", "", "b", "", "c", "")
}

// P17.1: what is safe stays safe when the bytes are others; a file that was gone has nothing safe.
func TestWhatStaysSafe(t *testing.T) {
	d := New()
	must(t, d.Write("f", []byte("abc")), d.Sync("f"), d.Append("f", []byte("def")))
	survives(t, d, 0, "f", "abc")
	must(t, d.Write("f", []byte("abcXY")))
	survives(t, d, 0, "f", "abc")
	survives(t, d, 1, "f", "abcX")
	must(t, d.Write("f", []byte("xyz")))
	survives(t, d, 0, "f", "")
	must(t, d.Write("f", []byte("ab")))
	survives(t, d, 0, "f", "")
	survives(t, d, 2, "f", "ab")
	must(t, d.Append("f", []byte("c")))
	survives(t, d, 0, "f", "abc")
	survives(t, d, 1, "f", "abc")
	must(t, d.Append("f", []byte("d")), d.Sync("f"))
	survives(t, d, 0, "f", "abcd")
	must(t, d.Remove("f"), d.Write("f", []byte("abcde")))
	survives(t, d, 0, "f", "")
	survives(t, d, 4, "f", "abcd")
}

// P17.1: Sync is of one file.
func TestSync(t *testing.T) {
	d := New()
	must(t, d.Write("f", []byte("abc")), d.Write("g", []byte("abc")), d.Sync("g"), d.Sync("g"))
	survives(t, d, 0, "f", "", "g", "abc")
	must(t, d.Write("g", nil), d.Sync("g"), d.Append("g", []byte("z")))
	survives(t, d, 0, "f", "", "g", "")
	if d.Ops() != 7 {
		t.Errorf("%d changes", d.Ops())
	}
}

// P17.1: Rename takes the bytes along, and what of them is safe.
func TestRename(t *testing.T) {
	d := New()
	must(t, d.Write("f", []byte("new")), d.Write("g", []byte("old")), d.Sync("g"), d.Append("g", []byte("er")))
	c := d.Copy()
	must(t, c.Rename("f", "g"))
	holds(t, c, "g", "new")
	survives(t, c, 0, "g", "")
	survives(t, c, 2, "g", "ne")
	if c.Sync("f") != api.ErrNone {
		t.Error("the old name is there")
	}
	must(t, c.Write("f", []byte("again")))
	holds(t, c, "f", "again", "g", "new")
	c = d.Copy()
	must(t, c.Rename("g", "f"))
	holds(t, c, "f", "older")
	survives(t, c, 0, "f", "old")
	must(t, c.Rename("f", "h"))
	holds(t, c, "h", "older")
	survives(t, c, 1, "h", "olde")
	if c.Ops() != 6 {
		t.Errorf("%d changes", c.Ops())
	}
}

// P17.1: Rename to the same name changes no file, and is a change.
func TestRenameToTheSameName(t *testing.T) {
	d := New()
	must(t, d.Write("f", []byte("old")), d.Sync("f"), d.Append("f", []byte("er")), d.Rename("f", "f"))
	holds(t, d, "f", "older")
	survives(t, d, 1, "f", "olde")
	if d.Ops() != 4 {
		t.Errorf("%d changes", d.Ops())
	}
	must(t, d.Fuse(1))
	if d.Rename("f", "f") != api.ErrCrash || !d.Dead() || d.Ops() != 5 {
		t.Error("it burns no fuse")
	}
	if d := New(); d.Rename("f", "f") != api.ErrNone || d.Ops() != 0 {
		t.Error("of a file that isn't there")
	}
}

// P17.1: Remove; what a Rename or a Remove changes is safe at once.
func TestRemove(t *testing.T) {
	d := New()
	must(t, d.Write("f", []byte("abc")), d.Sync("f"), d.Write("g", []byte("xyz")), d.Sync("g"), d.Remove("f"))
	holds(t, d, "g", "xyz")
	survives(t, d, 0, "g", "xyz")
	must(t, d.Rename("g", "f"))
	survives(t, d, 0, "f", "xyz")
	must(t, d.Remove("f"))
	survives(t, d, 0)
	holds(t, d)
	if d.Remove("f") != api.ErrNone || d.Ops() != 7 {
		t.Error("twice")
	}
}

var wrongNames = []string{"", " ", "a b", "a/b", "a\x00", "é", "\xff", "a:", "[0]", strings.Repeat("a", 25), strings.Repeat("b", 1<<16)}

var rightNames = []string{"a", "Z", "7", "_", "-", ".", "..", "state.new", "intent", strings.Repeat("a", 24)}

// P17.1: names.
func TestNames(t *testing.T) {
	d := New()
	must(t, d.Write("f", []byte("abc")))
	for _, name := range wrongNames {
		for i, e := range []api.Errno{d.Write(name, nil), d.Append(name, nil), d.Sync(name), d.Rename(name, "g"), d.Rename("f", name), d.Rename("none", name), d.Rename(name, name), d.Remove(name), d.Write(name, make([]byte, api.MaxFile+1)), d.Append(name, make([]byte, api.MaxFile+1))} {
			if e != api.ErrArg {
				t.Errorf("%q: call %d: %d", name, i, e)
			}
		}
		if b, e := d.Read(name); e != api.ErrNone || b != nil {
			t.Errorf("%q is read", name)
		}
	}
	holds(t, d, "f", "abc")
	must(t, d.Remove("f"))
	if d.Ops() != 2 {
		t.Errorf("%d changes", d.Ops())
	}
	for _, name := range rightNames {
		must(t, d.Append(name, []byte(name)), d.Sync(name), d.Rename(name, "f"), d.Rename("f", name), d.Write(name, nil), d.Remove(name))
		must(t, d.Write(name, []byte("x")))
	}
	order := slices.Clone(rightNames)
	slices.Sort(order)
	if !slices.Equal(d.Names(), order) {
		t.Errorf("%q, not %q", d.Names(), order)
	}
}

// P17.1: what isn't there.
func TestNone(t *testing.T) {
	d := New()
	must(t, d.Write("f", nil))
	for i, e := range []api.Errno{d.Sync("g"), d.Rename("g", "f"), d.Rename("g", "h"), d.Remove("g"), d.Remove("F")} {
		if e != api.ErrNone {
			t.Errorf("call %d: %d", i, e)
		}
	}
	if b, e := d.Read("g"); e != api.ErrNone || b != nil {
		t.Error("it is read")
	}
	if b, e := d.Read("f"); e != api.OK || len(b) != 0 {
		t.Error("a file without bytes isn't read")
	}
	holds(t, d, "f", "")
	if d.Ops() != 1 {
		t.Errorf("%d changes", d.Ops())
	}
}

// P17.1: how many bytes a file has at most.
func TestLong(t *testing.T) {
	d := New()
	full := bytes.Repeat([]byte("x"), api.MaxFile)
	must(t, d.Write("f", full), d.Append("f", nil), d.Append("g", full), d.Write("h", full[1:]), d.Append("h", []byte("y")))
	over := append(slices.Clone(full), 'x')
	for i, e := range []api.Errno{d.Write("f", over), d.Append("f", []byte("z")), d.Append("h", full), d.Append("new", over), d.Write("new", over), d.Write("new", make([]byte, 1<<24))} {
		if e != api.ErrLong {
			t.Errorf("call %d: %d", i, e)
		}
	}
	if d.Ops() != 5 || !slices.Equal(d.Names(), []string{"f", "g", "h"}) {
		t.Errorf("%d changes, of %q", d.Ops(), d.Names())
	}
	if b, _ := d.Read("f"); !bytes.Equal(b, full) {
		t.Error("the bytes are changed")
	}
	if b, _ := d.Read("h"); len(b) != api.MaxFile || b[api.MaxFile-1] != 'y' {
		t.Error("the last byte isn't there")
	}
	must(t, d.Write("f", nil), d.Append("f", full[:api.MaxFile/2]), d.Append("f", full[api.MaxFile/2:]))
	if d.Append("f", []byte("z")) != api.ErrLong {
		t.Error("one more")
	}
}

// P17.1: no power is told ahead of a wrong name, that ahead of what isn't there, and nothing is done.
func TestOrderOfErrors(t *testing.T) {
	d := New()
	must(t, d.Write("f", []byte("abc")), d.Fuse(1))
	long := make([]byte, api.MaxFile+1)
	for i, e := range []api.Errno{d.Sync("g"), d.Remove("g"), d.Rename("g", "f"), d.Write("f", long), d.Append("f", long), d.Write("a b", nil)} {
		if e == api.OK || e == api.ErrCrash || d.Dead() || d.Ops() != 1 {
			t.Errorf("call %d: %d, an error burns the fuse", i, e)
		}
	}
	if d.Sync("f") != api.ErrCrash || !d.Dead() || d.Ops() != 2 {
		t.Error("the fuse isn't burnt")
	}
	for i, e := range []api.Errno{
		d.Write("f", nil), d.Append("f", []byte("d")), d.Sync("f"), d.Rename("f", "g"), d.Rename("f", "f"), d.Remove("f"), d.Fuse(1), d.Fuse(0), d.Fuse(-1),
		d.Write("a b", nil), d.Append("", nil), d.Sync("a b"), d.Rename("a b", "f"), d.Rename("f", "a b"), d.Remove("a b"),
		d.Sync("g"), d.Rename("g", "h"), d.Remove("g"), d.Write("f", long), d.Append("f", long), d.Write("new", nil), d.Append("new", nil),
	} {
		if e != api.ErrCrash {
			t.Errorf("without power: call %d: %d", i, e)
		}
	}
	holds(t, d, "f", "abc")
	if !d.Dead() || d.Ops() != 2 {
		t.Error("without power something is done")
	}
	survives(t, d, 0, "f", "")
}

// P17: of a nil disk.
func TestNil(t *testing.T) {
	var d *Disk
	for i, e := range []api.Errno{d.Write("f", nil), d.Append("f", nil), d.Sync("f"), d.Rename("f", "g"), d.Remove("f"), d.Fuse(1), d.Fuse(0), d.Write("a b", nil), d.Append("", make([]byte, api.MaxFile+1)), d.Sync(""), d.Rename("", ""), d.Remove("")} {
		if e != api.ErrCrash {
			t.Errorf("call %d: %d", i, e)
		}
	}
	if b, e := d.Read("f"); e != api.ErrNone || b != nil {
		t.Error("Read")
	}
	if len(d.Names()) != 0 || d.Dead() || d.Ops() != 0 || d.Copy() != nil {
		t.Error("Names, Dead, Ops or Copy")
	}
	for _, keep := range []int{math.MinInt, -1, 0, 1, math.MaxInt} {
		d.Boot(keep)
	}
	if d.Dead() {
		t.Error("Dead")
	}
}
