package eval

import (
	"strings"

	"surety/api"
	"surety/num"
	"surety/value"
)

// text is the value of a string with expressions. That it is too long is told of all values that may not be.
func (w *walk) text(e api.Expr) (api.Value, api.Diag) {
	var b strings.Builder
	open, secret := false, false
	for _, part := range e.L {
		v, d := w.worth(part)
		if d.Code != api.OK {
			return api.Value{}, d
		}
		if !mayBe(v, api.Bool) && !mayBe(v, api.Int) && !mayBe(v, api.Str) {
			return wrong(part.Pos, api.ErrType, "")
		}
		open = open || isUnknown(v)
		secret = secret || v.Secret
		b.WriteString(textOf(v))
	}
	v := value.Str(b.String())
	if open {
		v = unknown(api.Str)
	}
	return marked(v, secret), api.Diag{}
}

// textOf is what a value adds to a string's text; something unknown has none yet.
func textOf(v api.Value) string {
	switch v.Kind {
	case api.VStr:
		return v.S
	case api.VInt:
		return num.Print(v.I)
	case api.VBool:
		if isTrue(v) {
			return "true"
		}
		return "false"
	}
	return ""
}
