package run

// frame is a function that was called.
type frame struct {
	others int     // how many functions it was called in
	locals []local // those that were made last behind
	back   int     // what comes of it, as far as it was told
}

type local struct {
	name string
	n    int
}

func (in *frame) add(name string, n int) { in.locals = append(in.locals, local{name, n}) }

// meant is the local of that name that was made last. Of one that nothing made it is 0, and kept nowhere.
func (in *frame) meant(name string) *local {
	for i := len(in.locals) - 1; i >= 0; i-- {
		if in.locals[i].name == name {
			return &in.locals[i]
		}
	}
	return &local{}
}
