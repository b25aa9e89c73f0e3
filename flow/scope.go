package flow

// scope has the label of the local that a name means, 0 of one that nothing made. It is never changed: a block adds to its own, and what is around it still has the one that it had.
type scope func(name string) int

func nothing(string) int { return 0 }

// with adds a local that hides those of its name. One without a name is none.
func (in scope) with(name string, n int) scope {
	if name == "" {
		return in
	}
	return func(asked string) int {
		if asked == name {
			return n
		}
		return in(asked)
	}
}
