package local

import (
	"slices"

	"headland/api"
	"headland/tree"
	"headland/wire"
)

// refusal is by what a call is refused, whatever pairs the store has. Right is whether all that it is handed beside some changes may be handed in.
func (s *Store) refusal(right bool, l ...api.Change) api.Errno {
	switch {
	case s.Dead():
		return api.ErrDown
	case !right || slices.ContainsFunc(l, isWrong):
		return api.ErrArg
	case slices.ContainsFunc(l, isLong):
		return api.ErrLong
	}
	return api.OK
}

func isWrong(c api.Change) bool { return !isSpace(c.Space) || len(c.Key) == 0 }

func isLong(c api.Change) bool { return len(c.Key) > mostKey || len(c.Value) > api.MaxValue }

// atOnce makes a change of the tree, and of its figures, in one Commit, or nothing of it.
func (s *Store) atOnce(change func(next *figures) api.Errno) api.Errno {
	next := s.last
	e := change(&next)
	if e == api.OK {
		e = s.Commit()
	}
	if e != api.OK {
		s.goBack()
		return e
	}
	s.last = next
	return api.OK
}

// goBack lets the tree be as at its last Commit. One whose Commit was refused is dead, although its disk may have its power: then it is opened anew.
func (s *Store) goBack() {
	if s.Rollback() == api.OK {
		return
	}
	if anew, e := tree.Open(s.disk); e == api.OK {
		s.Tree = anew
	}
}

// lay lays down some changes, one behind the other, and a position.
func (s *Store) lay(pos int, l []api.Change, next *figures) api.Errno {
	for _, c := range l {
		if e := s.layOne(c, next); e != api.OK {
			return e
		}
	}
	if pos == next.pos {
		return api.OK
	}
	next.pos = pos
	return s.Put(positionKey(), wire.Uint(pos))
}

func (s *Store) layOne(c api.Change, next *figures) api.Errno {
	had := s.Tree.Len()
	e := s.putOrTake(treeKey(c.Space, c.Key), c)
	next.pairs[c.Space] += s.Tree.Len() - had
	return e
}

func (s *Store) putOrTake(key []byte, c api.Change) api.Errno {
	if !c.Gone {
		return s.Put(key, c.Value)
	}
	_, e := s.Delete(key)
	return e
}

// empty takes all away, the lowest key first: so the pages that are laid on the way are few, however many pairs there are, since each Delete leaves all pages but those at the tree's one edge as they are.
func (s *Store) empty(next *figures) api.Errno {
	l, e := s.Tree.Range(nil, nil, s.Tree.Len())
	if e != api.OK {
		return e
	}
	for _, p := range l {
		if _, e := s.Delete(p.Key); e != api.OK {
			return e
		}
	}
	*next = figures{}
	return api.OK
}
