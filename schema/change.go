package schema

import (
	"surety/api"
	"surety/value"
)

// Changed are the names of the attributes that differ in a and in b, but of computed ones.
func Changed(t string, a, b api.Value) []string {
	var l []string
	for _, x := range changed(t, a, b) {
		l = append(l, x.Name)
	}
	return l
}

// Anew tells whether what differs in a and in b makes another object.
func Anew(t string, a, b api.Value) bool {
	for _, x := range changed(t, a, b) {
		if x.Anew {
			return true
		}
	}
	return false
}

func changed(t string, a, b api.Value) []api.Attr {
	attrs, _ := Attrs(t)
	var l []api.Attr
	for _, x := range attrs {
		if !x.Computed && !value.Like(element(a, x), element(b, x)) {
			l = append(l, x)
		}
	}
	return l
}

// Computed is v, with what from has of computed attributes in the place of what v has of them.
func Computed(t string, v, from api.Value) api.Value {
	v = value.Copy(v)
	if v.Kind != api.VMap {
		return v
	}
	attrs, _ := Attrs(t)
	for _, a := range attrs {
		if x, e := value.Get(from, a.Name); a.Computed && e == api.OK {
			put(v, a.Name, x)
		}
	}
	return v
}

// put lays x at each place of v whose key is name, each time in new memory: the keys of a value of any shape needn't differ, nor has each one an element.
func put(v api.Value, name string, x api.Value) {
	for i := range min(len(v.Keys), len(v.L)) {
		if v.Keys[i] == name {
			v.L[i] = value.Copy(x)
		}
	}
}
