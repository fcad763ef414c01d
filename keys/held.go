package keys

import (
	"cmp"

	"headland/api"
)

// A value is held inside as one of these, as an interface value: a held value has no field that its kind does not have.
type (
	nothing struct{}
	number  int
	text    string
	truth   bool
)

// hold is nil for a kind that there is not.
func hold(v api.Value) any {
	switch v.Kind {
	case api.Nothing:
		return nothing{}
	case api.Int:
		return number(v.N)
	case api.Text:
		return text(v.S)
	case api.Bool:
		return truth(v.N == 1)
	}
	return nil
}

// holdRight holds a value that is Right, and refuses any other one.
func holdRight(v api.Value) (any, api.Errno) {
	h := hold(v)
	if release(h) != v {
		// Something of it is lost when it is held: a kind that there is not, a field that its kind does not have, a truth's N.
		return nil, api.ErrArg
	}
	if s, ok := h.(text); ok && Runes(string(s)) < 0 {
		return nil, api.ErrText
	}
	return h, api.OK
}

// release undoes hold.
func release(h any) api.Value {
	if n, ok := h.(number); ok {
		return api.Value{Kind: api.Int, N: int(n)}
	}
	if s, ok := h.(text); ok {
		return api.Value{Kind: api.Text, S: string(s)}
	}
	if t, ok := h.(truth); ok {
		return api.Value{Kind: api.Bool, N: t.number()}
	}
	return api.Value{Kind: api.Nothing}
}

func (t truth) number() int {
	if t {
		return 1
	}
	return 0
}

func compareHeld(a, b any) int {
	if n, ok := a.(number); ok {
		if m, ok := b.(number); ok {
			return cmp.Compare(n, m)
		}
	}
	if s, ok := a.(text); ok {
		if t, ok := b.(text); ok {
			return compareTexts(string(s), string(t))
		}
	}
	if t, ok := a.(truth); ok {
		if u, ok := b.(truth); ok {
			return cmp.Compare(t.number(), u.number())
		}
	}
	return cmp.Compare(release(a).Kind, release(b).Kind)
}
