package disk

import (
	"math/rand"
	"slices"
	"sort"
	"testing"

	"surety/api"
)

// model is a way of its own: a row of all calls so far, gone through anew for each question.
type model struct{ calls []call }

// call is a call, with its name, or names, and bytes, or its number.
type call struct {
	kind, a, b string
	n          int
}

// record is a file of a model.
type record struct {
	name        string
	bytes, safe []byte
}

// now answers the files, whether there is power, in how many changes the fuse burns (0: none), and how many changes there were.
func (m *model) now() (files []record, power bool, fuse, ops int) {
	power = true
	for _, c := range m.calls {
		switch c.kind {
		case "fuse":
			if power {
				fuse = max(0, c.n)
			}
		case "boot":
			files, power, fuse = booted(files, c.n), true, 0
		default:
			if !power || refused(files, c) != api.OK {
				continue
			}
			ops++
			burns := fuse == 1
			if fuse > 0 {
				fuse--
			}
			if !burns || c.kind == "write" || c.kind == "append" {
				files = done(files, c)
			}
			power = !burns
		}
	}
	sort.Slice(files, func(i, j int) bool { return files[i].name < files[j].name })
	return files, power, fuse, ops
}

func place(files []record, name string) int {
	return slices.IndexFunc(files, func(r record) bool { return r.name == name })
}

// refused answers what stands against a change while there is power; of names the rows have only good ones and the empty one.
func refused(files []record, c call) api.Errno {
	if c.a == "" || c.kind == "rename" && c.b == "" {
		return api.ErrArg
	}
	i := place(files, c.a)
	switch c.kind {
	case "sync", "rename", "remove":
		if i < 0 {
			return api.ErrNone
		}
	case "write":
		if len(c.b) > api.MaxFile {
			return api.ErrLong
		}
	case "append":
		if i >= 0 && len(files[i].bytes)+len(c.b) > api.MaxFile || len(c.b) > api.MaxFile {
			return api.ErrLong
		}
	}
	return api.OK
}

func done(files []record, c call) []record {
	i := place(files, c.a)
	if i < 0 {
		return append(files, record{c.a, []byte(c.b), nil})
	}
	switch c.kind {
	case "write":
		files[i].bytes = []byte(c.b)
	case "append":
		files[i].bytes = slices.Concat(files[i].bytes, []byte(c.b))
	case "sync":
		files[i].safe = slices.Clone(files[i].bytes)
	case "remove":
		files = slices.Delete(files, i, i+1)
	case "rename":
		if j := place(files, c.b); j >= 0 && j != i {
			files[j].name = ""
		}
		files[i].name = c.b
		files = slices.DeleteFunc(files, func(r record) bool { return r.name == "" })
	}
	return files
}

// booted counts keep down, or up, to what it is worth, byte by byte.
func booted(files []record, keep int) []record {
	for i, r := range files {
		sure := len(r.safe)
		if sure > len(r.bytes) || !slices.Equal(r.bytes[:sure], r.safe) {
			sure = 0
		}
		end := sure
		for range max(keep, -keep) {
			if keep > 0 {
				end++
			} else {
				end--
			}
			if end > len(r.bytes) {
				end = sure
			} else if end < sure {
				end = len(r.bytes)
			}
		}
		files[i].bytes = slices.Clone(r.bytes[:end])
		files[i].safe = slices.Clone(r.bytes[:end])
	}
	return files
}

func (m *model) ask(c call) api.Errno {
	files, power, fuse, _ := m.now()
	m.calls = append(m.calls, c)
	switch {
	case c.kind == "boot":
		return api.OK
	case !power:
		return api.ErrCrash
	case c.kind == "fuse":
		return api.OK
	}
	if e := refused(files, c); e != api.OK {
		return e
	}
	if fuse == 1 {
		return api.ErrCrash
	}
	return api.OK
}

func ask(d *Disk, c call) api.Errno {
	switch c.kind {
	case "write":
		return d.Write(c.a, []byte(c.b))
	case "append":
		return d.Append(c.a, []byte(c.b))
	case "sync":
		return d.Sync(c.a)
	case "rename":
		return d.Rename(c.a, c.b)
	case "remove":
		return d.Remove(c.a)
	case "fuse":
		return d.Fuse(c.n)
	}
	d.Boot(c.n)
	return api.OK
}

func randomCall(r *rand.Rand) call {
	names := []string{"a", "b", "c", "B"}
	pieces := []string{"", "x", "y", "xy", "xyx", "xx"}
	name := func() string {
		if r.Intn(20) == 0 {
			return ""
		}
		return names[r.Intn(4)]
	}
	switch k := r.Intn(20); {
	case k < 5:
		return call{kind: "write", a: name(), b: pieces[r.Intn(6)]}
	case k < 9:
		return call{kind: "append", a: name(), b: pieces[r.Intn(6)]}
	case k < 12:
		return call{kind: "sync", a: name()}
	case k < 15:
		return call{kind: "rename", a: name(), b: name()}
	case k < 16:
		return call{kind: "remove", a: name()}
	case k < 18:
		return call{kind: "fuse", n: r.Intn(9) - 2}
	}
	return call{kind: "boot", n: r.Intn(25) - 12}
}

func hold(t *testing.T, d *Disk, m *model) {
	t.Helper()
	files, power, _, ops := m.now()
	var names []string
	for _, f := range files {
		names = append(names, f.name)
		if b, e := d.Read(f.name); e != api.OK || string(b) != string(f.bytes) {
			t.Fatalf("%v: %s is %q (%d), not %q", m.calls, f.name, b, e, f.bytes)
		}
	}
	if !slices.Equal(d.Names(), names) || d.Dead() == power || d.Ops() != ops {
		t.Fatalf("%v: %q, dead is %v, %d changes; not %q, %v, %d", m.calls, d.Names(), d.Dead(), d.Ops(), names, !power, ops)
	}
}

// P17.1, P17.2: random rows of calls, on a disk, and at times on its copies.
func TestRandom(t *testing.T) {
	r := rand.New(rand.NewSource(17))
	for range 3000 {
		d, m := New(), &model{}
		left, leftModel := d.Copy(), &model{}
		for range 1 + r.Intn(40) {
			if r.Intn(10) == 0 {
				hold(t, left, leftModel)
				left, leftModel = d, &model{slices.Clone(m.calls)}
				d = d.Copy()
			}
			c := randomCall(r)
			want := m.ask(c)
			if e := ask(d, c); e != want {
				t.Fatalf("%v: %d, not %d", m.calls, e, want)
			}
			hold(t, d, m)
		}
		hold(t, left, leftModel)
	}
}
