package names

import "undertone/api"

// scope tells where the local is made that a name means. It is never changed: a block adds to its own, and what is around it still has the one that it had.
type scope func(name string) (at int, ok bool)

func nothing(string) (int, bool) { return 0, false }

// with adds a local that hides those of its name.
func (in scope) with(r api.Ref) scope {
	return func(name string) (int, bool) {
		if name == r.Name {
			return r.At, true
		}
		return in(name)
	}
}
