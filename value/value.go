// Package value is layer 1: values: see shared/doc/01-value.md.
package value

import (
	"cmp"
	"strings"

	"postilion/api"
)

// Check tells whether a value may be.
func Check(v api.Value) api.Errno {
	may := false
	switch v.Kind {
	case api.VInt:
		may = v.S == ""
	case api.VText:
		may = v.N == 0 && len(v.S) <= api.MaxText
	case api.VBool:
		may = (v.N == 0 || v.N == 1) && v.S == ""
	}
	if !may {
		return api.ErrValue
	}
	return api.OK
}

// Order is which of two values comes first: -1, 0 or 1.
func Order(a, b api.Value) int {
	// A later place counts only where all places ahead of it are the same.
	n := place(a.Kind, b.Kind)
	if n != 0 {
		goto told
	}
	if n = place(a.N, b.N); n != 0 {
		goto told
	}
	n = place(a.S, b.S)
told:
	return n
}

// place is which of two comes first, of one place of a value.
func place[T cmp.Ordered](a, b T) int {
	switch {
	case a < b:
		return -1
	case b < a:
		return 1
	}
	return 0
}

// Begins tells whether a text begins with another one.
func Begins(a, b api.Value) bool {
	return a.Kind == api.VText && b.Kind == api.VText && strings.HasPrefix(a.S, b.S)
}

// Int is a number.
func Int(n int64) api.Value { return api.Value{Kind: api.VInt, N: n} }

// Text is a text.
func Text(s string) api.Value { return api.Value{Kind: api.VText, S: s} }

// Bool is a bool.
func Bool(is bool) api.Value {
	if is {
		return api.Value{Kind: api.VBool, N: 1}
	}
	return api.Value{Kind: api.VBool}
}
