package flow

// local is what a name means: its label, and the number of the let that made it, noLet of any other.
type local struct{ label, let int }

const noLet = -1

// scope has the local that a name means, of label 0 where nothing made it. It is never changed: a block adds to its own, and what is around it still has the one that it had.
type scope func(name string) local

func nothing(string) local { return local{let: noLet} }

// with adds a local that hides those of its name. One without a name is none.
func (in scope) with(name string, made local) scope {
	if name == "" {
		return in
	}
	return func(asked string) local {
		if asked == name {
			return made
		}
		return in(asked)
	}
}
