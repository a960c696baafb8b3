package schema

import (
	"surety/api"
	"surety/value"
)

// Complete is the object of a type with what is given, and null in all else; with an error, what it is about.
func Complete(t string, given api.Value) (v api.Value, what string, e api.Errno) {
	attrs, e := Attrs(t)
	if e != api.OK {
		return api.Value{}, t, e
	}
	if !isMap(given) {
		return api.Value{}, "", api.ErrType
	}
	if what, e = wrongKey(t, given); e != api.OK {
		return api.Value{}, what, e
	}
	if what, e = missing(attrs, given); e != api.OK {
		return api.Value{}, what, e
	}
	v = completed(attrs, given)
	// What was given may be, but the nulls weigh too.
	if value.Check(v) != api.OK {
		return api.Value{}, "", api.ErrType
	}
	return v, "", api.OK
}

// wrongKey is the first key of what is given at which something is wrong.
func wrongKey(t string, given api.Value) (string, api.Errno) {
	attrs := byPlace()
	for i, k := range given.Keys {
		a, ok := attrs[place{t, k}]
		if !ok || a.Computed {
			return k, api.ErrName
		}
		if !value.Fits(given.L[i], a.T) {
			return k, api.ErrType
		}
	}
	return "", api.OK
}

// missing is the first attribute that is needed, and isn't given or is null.
func missing(attrs []api.Attr, given api.Value) (string, api.Errno) {
	for _, a := range attrs {
		if lacks(a, element(given, a)) {
			return a.Name, api.ErrNeed
		}
	}
	return "", api.OK
}

func completed(attrs []api.Attr, given api.Value) api.Value {
	v := api.Value{
		Kind:   api.VMap,
		Keys:   make([]string, len(attrs)),
		L:      make([]api.Value, len(attrs)),
		Secret: given.Secret,
	}
	for i, a := range attrs {
		v.Keys[i] = a.Name
		v.L[i] = element(given, a)
		if a.Own {
			// Also where it is null: whether there is a secret is told to none.
			v.L[i] = value.Mark(v.L[i])
		}
	}
	return v
}

// element is an attribute's element of v; null, if it isn't there: Get's zero value is that.
func element(v api.Value, a api.Attr) api.Value {
	x, _ := value.Get(v, a.Name)
	return x
}
