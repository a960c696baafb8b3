package disk

import (
	"math"
	"strings"
	"testing"

	"surety/api"
)

// laid is a disk with three files: f is safe but for its end, g is safe as it is, h isn't safe.
func laid(t *testing.T) *Disk {
	t.Helper()
	d := New()
	must(t, d.Write("f", []byte("old")), d.Sync("f"), d.Append("f", []byte("er")), d.Write("g", []byte("gee")), d.Sync("g"), d.Append("h", []byte("hot")))
	return d
}

const opsOfLaid = 6

// changes are one of each kind, with what files there are behind it: done, and burnt.
func changes() []struct {
	name        string
	do          func(d *Disk) api.Errno
	done, burnt []string
} {
	asLaid := []string{"f", "older", "g", "gee", "h", "hot"}
	return []struct {
		name        string
		do          func(d *Disk) api.Errno
		done, burnt []string
	}{
		{"Write", func(d *Disk) api.Errno { return d.Write("f", []byte("x")) }, []string{"f", "x", "g", "gee", "h", "hot"}, []string{"f", "x", "g", "gee", "h", "hot"}},
		{"Write of a new one", func(d *Disk) api.Errno { return d.Write("i", []byte("x")) }, append(asLaid[:6:6], "i", "x"), append(asLaid[:6:6], "i", "x")},
		{"Append", func(d *Disk) api.Errno { return d.Append("h", []byte("ter")) }, []string{"f", "older", "g", "gee", "h", "hotter"}, []string{"f", "older", "g", "gee", "h", "hotter"}},
		{"Append to a new one", func(d *Disk) api.Errno { return d.Append("i", nil) }, append(asLaid[:6:6], "i", ""), append(asLaid[:6:6], "i", "")},
		{"Sync", func(d *Disk) api.Errno { return d.Sync("f") }, asLaid, asLaid},
		{"Rename", func(d *Disk) api.Errno { return d.Rename("h", "g") }, []string{"f", "older", "g", "hot"}, asLaid},
		{"Remove", func(d *Disk) api.Errno { return d.Remove("g") }, []string{"f", "older", "h", "hot"}, asLaid},
	}
}

// P17.1, P17.2: each kind of change done and burnt, as each number from 1 on.
func TestFuse(t *testing.T) {
	for _, c := range changes() {
		d := laid(t)
		must(t, c.do(d))
		holds(t, d, c.done...)
		if d.Dead() || d.Ops() != opsOfLaid+1 {
			t.Errorf("%s: dead, or %d changes", c.name, d.Ops())
		}
		for n := 1; n <= 5; n++ {
			d := laid(t)
			must(t, d.Fuse(n))
			for range n - 1 {
				must(t, d.Sync("g"))
			}
			if e := c.do(d); e != api.ErrCrash || !d.Dead() || d.Ops() != opsOfLaid+n {
				t.Errorf("%s as number %d: %d, dead is %v, %d changes", c.name, n, e, d.Dead(), d.Ops())
			}
			holds(t, d, c.burnt...)
			if d.Sync("f") != api.ErrCrash || d.Ops() != opsOfLaid+n {
				t.Errorf("%s as number %d: power", c.name, n)
			}
		}
	}
}

// P17.1: a Sync that burns the fuse makes nothing safe; one that is done does.
func TestBurntSync(t *testing.T) {
	d := laid(t)
	must(t, d.Sync("h"), d.Fuse(1))
	if d.Sync("f") != api.ErrCrash {
		t.Error("the fuse isn't burnt")
	}
	survives(t, d, 0, "f", "old", "g", "gee", "h", "hot")
	survives(t, d, 1, "f", "olde", "g", "gee", "h", "hot")
}

// P17.1: what a burnt Write or Append laid isn't safe, and what was stays so.
func TestBurntBytes(t *testing.T) {
	d := laid(t)
	must(t, d.Fuse(1))
	if d.Append("f", []byte("!")) != api.ErrCrash {
		t.Error("the fuse isn't burnt")
	}
	for keep, f := range []string{"old", "olde", "older", "older!", "old"} {
		survives(t, d, keep, "f", f, "g", "gee", "h", "hot"[:keep%4])
	}
	d = laid(t)
	must(t, d.Fuse(1))
	if d.Write("g", []byte("new")) != api.ErrCrash {
		t.Error("the fuse isn't burnt")
	}
	survives(t, d, 1, "f", "olde", "g", "n", "h", "h")
}

// P17.2: a later fuse stands in the place of the one ahead of it; none, if it is below 1.
func TestFuseAnew(t *testing.T) {
	for _, n := range []int{0, -1, math.MinInt, 100, math.MaxInt} {
		d := laid(t)
		must(t, d.Fuse(1), d.Fuse(n))
		for range 50 {
			must(t, d.Sync("f"))
		}
		if d.Dead() {
			t.Errorf("fuse %d", n)
		}
	}
	d := laid(t)
	must(t, d.Fuse(5), d.Sync("f"), d.Sync("f"), d.Fuse(2), d.Sync("f"))
	if d.Sync("f") != api.ErrCrash {
		t.Error("fuse 2")
	}
	d = laid(t)
	must(t, d.Fuse(2), d.Sync("f"), d.Fuse(2), d.Sync("f"))
	if d.Sync("f") != api.ErrCrash || d.Ops() != opsOfLaid+3 {
		t.Error("it is counted from the later call on")
	}
}

// P17.2: what is no change doesn't count for the fuse.
func TestWhatDoesNotBurn(t *testing.T) {
	d := laid(t)
	must(t, d.Fuse(1))
	d.Names()
	d.Read("f")
	d.Dead()
	d.Ops()
	c := d.Copy()
	if d.Dead() || d.Ops() != opsOfLaid || c.Dead() {
		t.Error("it does")
	}
	if d.Remove("f") != api.ErrCrash || c.Dead() || c.Write("f", nil) != api.ErrCrash {
		t.Error("the fuse is gone, or not copied")
	}
}

// P17.2: without power there is still what Read, Names, Dead, Ops and Copy tell.
func TestDeadDisk(t *testing.T) {
	d := laid(t)
	must(t, d.Fuse(1))
	d.Remove("f")
	c := d.Copy()
	for _, x := range []*Disk{d, c} {
		holds(t, x, "f", "older", "g", "gee", "h", "hot")
		if !x.Dead() || x.Ops() != opsOfLaid+1 || x.Remove("f") != api.ErrCrash {
			t.Error("it has power, or has counted")
		}
		if b, e := x.Read("i"); e != api.ErrNone || b != nil {
			t.Error("Read")
		}
	}
	c.Boot(0)
	if c.Dead() || !d.Dead() || c.Ops() != opsOfLaid+1 {
		t.Error("Boot of a copy")
	}
	holds(t, c, "f", "old", "g", "gee", "h", "")
	holds(t, d, "f", "older", "g", "gee", "h", "hot")
}

// P17.2: Boot with and without power: power comes back, there is no fuse, and all is safe.
func TestBoot(t *testing.T) {
	for _, dead := range []bool{false, true} {
		d := laid(t)
		ops := opsOfLaid
		must(t, d.Fuse(1))
		if dead {
			d.Remove("f")
			ops++
		}
		d.Boot(2)
		holds(t, d, "f", "older", "g", "gee", "h", "ho")
		if d.Dead() || d.Ops() != ops {
			t.Errorf("dead is %v, %d changes", d.Dead(), d.Ops())
		}
		d.Boot(0)
		d.Boot(-1)
		holds(t, d, "f", "older", "g", "gee", "h", "ho")
		must(t, d.Append("h", []byte("p")), d.Append("g", []byte("p")))
		survives(t, d, 0, "f", "older", "g", "gee", "h", "ho")
		survives(t, d, 1, "f", "older", "g", "geep", "h", "hop")
		if d.Ops() != ops+2 {
			t.Errorf("%d changes", d.Ops())
		}
	}
	d := New()
	d.Boot(3)
	holds(t, d)
}

// P17.2: of a fuse that isn't burnt nothing is left when the power comes back.
func TestBootTakesTheFuse(t *testing.T) {
	d := laid(t)
	must(t, d.Fuse(3), d.Sync("f"))
	d.Boot(0)
	for range 10 {
		must(t, d.Sync("f"))
	}
}

// P17.2: each keep, of each shape of a file: bytes, what is safe of them, what is left for 0, 1, ..
func TestKeep(t *testing.T) {
	for _, c := range []struct {
		safe, bytes string
		left        []string
	}{
		{"", "", []string{""}},
		{"", "a", []string{"", "a"}},
		{"", "abc", []string{"", "a", "ab", "abc"}},
		{"ab", "ab", []string{"ab"}},
		{"ab", "abc", []string{"ab", "abc"}},
		{"ab", "abcde", []string{"ab", "abc", "abcd", "abcde"}},
		{"ab", "", []string{""}},
		{"ab", "a", []string{"", "a"}},
		{"ab", "b", []string{"", "b"}},
		{"ab", "acd", []string{"", "a", "ac", "acd"}},
		{"ab", "xab", []string{"", "x", "xa", "xab"}},
		{"\x00", "\x00\x00", []string{"\x00", "\x00\x00"}},
		{"\xff", "\xfe\xff", []string{"", "\xfe", "\xfe\xff"}},
	} {
		d := New()
		must(t, d.Write("f", []byte(c.safe)), d.Sync("f"), d.Write("f", []byte(c.bytes)))
		m := len(c.left)
		for keep := -3 * m; keep < 3*m; keep++ {
			survives(t, d, keep, "f", c.left[(keep+3*m)%m])
		}
		// The remainders of the ends of the numbers, found by steps from 0 on.
		survives(t, d, math.MaxInt, "f", c.left[leastRest(math.MaxInt, m)])
		survives(t, d, math.MinInt, "f", c.left[(m-leastRest(math.MaxInt, m)+m-1)%m])
	}
}

// leastRest is the remainder of n by m, bit by bit.
func leastRest(n uint64, m int) int {
	r := 0
	for i := 63; i >= 0; i-- {
		r = 2*r + int(n>>i&1)
		if r >= m {
			r -= m
		}
	}
	return r
}

// P17.2: keep is taken anew of each file, great ones too.
func TestKeepOfManyFiles(t *testing.T) {
	d := New()
	for n := range 20 {
		name := "f" + string(rune('a'+n))
		must(t, d.Write(name, []byte("safe")), d.Sync(name), d.Append(name, []byte(strings.Repeat("x", n))))
	}
	must(t, d.Write("g", []byte(strings.Repeat("y", api.MaxFile))))
	for _, keep := range []int{0, 1, 7, 19, 20, 21, 1000, api.MaxFile, api.MaxFile + 1, -1, -20} {
		c := d.Copy()
		c.Boot(keep)
		for n := range 20 {
			b, _ := c.Read("f" + string(rune('a'+n)))
			if len(b) != 4+((keep%(n+1))+n+1)%(n+1) || !strings.HasPrefix(string(b), "safe") {
				t.Errorf("keep %d, %d not safe: %q", keep, n, b)
			}
		}
		if b, _ := c.Read("g"); len(b) != ((keep%(api.MaxFile+1))+api.MaxFile+1)%(api.MaxFile+1) {
			t.Errorf("keep %d: %d bytes", keep, len(b))
		}
	}
}
