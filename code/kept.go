package code

// kept is a list that can be made again as it was.
type kept[T any] struct {
	now     []T
	changes []change[T]
}

// change of an element: which one, and what it was before.
type change[T any] struct {
	at  int
	was T
}

func (k *kept[T]) put(at int, value T) {
	k.changes = append(k.changes, change[T]{at: at, was: k.now[at]})
	k.now[at] = value
}

// undo all changes but so many.
func (k *kept[T]) undo(changes int) {
	for last := len(k.changes) - 1; last >= changes; last-- {
		k.now[k.changes[last].at] = k.changes[last].was
	}
	k.changes = k.changes[:changes]
}
