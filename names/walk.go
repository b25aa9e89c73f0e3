package names

import "undertone/api"

// walker goes through an item, and tells of its names in the order in which they are asked of.
type walker struct {
	file  api.File
	at    int                            // where the item stands in the file
	wrong func(err api.Errno, r api.Ref) // what is wrong with a name
	used  func(r api.Ref, def int)       // at which byte of the file what a name means is made
}

func walk(f api.File, i int, wrong func(err api.Errno, r api.Ref), used func(r api.Ref, def int)) {
	it := f.Items[i]
	w := &walker{file: f, at: it.At, wrong: wrong, used: used}
	if first := Find(f, it.Kind, it.Name); it.Kind != api.ItBad && first >= 0 && first < i {
		wrong(api.ErrName, api.Ref{Name: it.Name, At: it.Mark})
	}
	if it.Kind == api.ItFn {
		w.function(it)
	}
}

func (w *walker) function(it api.Item) {
	in := scope(nothing)
	for _, p := range it.Params {
		in = w.makes(in, api.Ref{Name: p.Name, At: p.At})
	}
	w.sends(it.Sends)
	w.block(in, it.Body)
}

// makes has the scope in which r is made too, even where its name was made already.
func (w *walker) makes(in scope, r api.Ref) scope {
	if r.Name == "" {
		return in
	}
	if _, ok := in(r.Name); ok {
		w.wrong(api.ErrName, r)
	}
	return in.with(r)
}

func (w *walker) sends(l []api.Ref) {
	stood := map[string]int{}
	for _, r := range l {
		w.channel(r)
		if stood[r.Name] > 0 && r.Name != "" {
			w.wrong(api.ErrName, r)
		}
		stood[r.Name]++
	}
}

// block goes through statements, each in the scope that those ahead of it made.
func (w *walker) block(in scope, l []api.Stmt) {
	for _, st := range l {
		in = w.stmt(in, st)
	}
}

// stmt has the scope of what stands behind st.
func (w *walker) stmt(in scope, st api.Stmt) scope {
	w.expr(in, st.E)
	name := api.Ref{Name: st.Name, At: st.At}
	switch st.Kind {
	case api.StLet:
		return w.makes(in, name)
	case api.StSet:
		w.local(in, name)
	case api.StSend:
		w.channel(name)
	case api.StIf:
		w.block(in, st.Then)
		w.block(in, st.Else)
	case api.StWhile:
		w.block(in, st.Then)
	}
	return in
}

func (w *walker) expr(in scope, e api.Expr) {
	name := api.Ref{Name: e.Name, At: e.From}
	switch e.Kind {
	case api.ExVar:
		w.local(in, name)
	case api.ExOp:
		w.exprs(in, e.Args)
	case api.ExCall:
		w.call(name, len(e.Args))
		w.exprs(in, e.Args)
	}
}

func (w *walker) exprs(in scope, l []api.Expr) {
	for _, e := range l {
		w.expr(in, e)
	}
}

func (w *walker) local(in scope, r api.Ref) {
	at, ok := in(r.Name)
	if !ok {
		w.wrong(api.ErrNone, r)
		return
	}
	w.used(r, w.at+at)
}

func (w *walker) call(r api.Ref, args int) {
	fn, ok := w.item(api.ItFn, r)
	if ok && len(fn.Params) != args {
		w.wrong(api.ErrMany, r)
	}
}

// channel passes over an empty name: that it is missing was told when it was read.
func (w *walker) channel(r api.Ref) {
	if r.Name != "" {
		w.item(api.ItChan, r)
	}
}

// item has the item of that kind that r means.
func (w *walker) item(kind int, r api.Ref) (api.Item, bool) {
	i := Find(w.file, kind, r.Name)
	if i < 0 {
		w.wrong(api.ErrNone, r)
		return api.Item{}, false
	}
	it := w.file.Items[i]
	w.used(r, it.At+it.Mark)
	return it, true
}
