package rename

import (
	"undertone/api"
	"undertone/names"
)

// stands has the name at byte at of the file; where a name is made it is told like a use of itself.
func stands(f api.File, at int) (api.Use, bool) {
	if u, ok := names.At(f, at); ok {
		return u, true
	}
	var out api.Use
	found := false
	for _, it := range f.Items {
		makes(it, func(name string, mark int) {
			from := it.At + mark
			to := from + len(name)
			if from <= at && at < to {
				out, found = api.Use{From: from, To: to, Def: from}, true
			}
		})
	}
	return out, found
}

// makes hands on each name that an item makes, and where in the item it stands.
func makes(it api.Item, use func(name string, mark int)) {
	if it.Kind == api.ItBad || it.Name == "" {
		return
	}
	use(it.Name, it.Mark)
	if it.Kind != api.ItFn {
		return
	}
	for _, p := range it.Params {
		use(p.Name, p.At)
	}
	lets(it.Body, use)
}

func lets(l []api.Stmt, use func(name string, mark int)) {
	for _, st := range l {
		switch st.Kind {
		case api.StLet:
			use(st.Name, st.At)
		case api.StIf:
			lets(st.Then, use)
			lets(st.Else, use)
		case api.StWhile:
			lets(st.Then, use)
		}
	}
}
