package flow

import (
	"undertone/api"
	"undertone/label"
	"undertone/names"
)

// walker goes through a function, and tells of its expressions, each one's parts ahead of it, and of flows that must not be.
type walker struct {
	file   api.File
	floors []int
	back   int                          // the label of what comes of the function
	wrong  func(d api.Diag)             // a secret that would be told
	heard  func(e api.Expr, secret int) // an expression, and the Join of its label and what it is under
	lets   []int                        // of each let, as they begin, the Join of all that has flowed to it
}

// quiet has a walker that tells nothing, until it is given whom to tell.
func quiet(f api.File, floors []int) walker {
	return walker{file: f, floors: floors, wrong: func(api.Diag) {}, heard: func(api.Expr, int) {}}
}

// item passes over what is no function, or no item at all.
func (w *walker) item(i int) {
	if i < 0 || i >= len(w.file.Items) || w.file.Items[i].Kind != api.ItFn {
		return
	}
	it := w.file.Items[i]
	in := scope(nothing)
	for _, p := range it.Params {
		in = in.with(p.Name, local{label: p.Label, let: noLet})
	}
	w.back = it.Label
	w.block(in, it.Body, 0)
}

// block goes through statements, each in the scope that those ahead of it made.
func (w *walker) block(in scope, l []api.Stmt, under int) {
	for _, st := range l {
		in = w.stmt(in, st, under)
	}
}

// stmt has the scope of what stands behind st. It looks at just what st's kind has.
func (w *walker) stmt(in scope, st api.Stmt, under int) scope {
	switch st.Kind {
	case api.StLet:
		return w.let(in, st, under)
	case api.StSet:
		w.set(in, st, under)
	case api.StSend:
		w.send(in, st, under)
	case api.StBack:
		w.tells(st, w.secret(in, st.E, under), w.back)
	case api.StDo:
		w.secret(in, st.E, under)
	case api.StIf:
		n := w.secret(in, st.E, under)
		w.block(in, st.Then, n)
		w.block(in, st.Else, n)
	case api.StWhile:
		w.while(in, st, under)
	}
	return in
}

func (w *walker) let(in scope, st api.Stmt, under int) scope {
	n := w.secret(in, st.E, under)
	made := local{label: st.Label, let: len(w.lets)}
	w.lets = append(w.lets, n)
	if st.Open {
		made.label = n
	}
	w.tells(st, n, made.label)
	return in.with(st.Name, made)
}

func (w *walker) set(in scope, st api.Stmt, under int) {
	n := w.secret(in, st.E, under)
	to := in(st.Name)
	w.tells(st, n, to.label)
	if to.let != noLet {
		w.lets[to.let] = label.Join(w.lets[to.let], n)
	}
}

func (w *walker) send(in scope, st api.Stmt, under int) {
	n := w.secret(in, st.E, under)
	if i := names.Find(w.file, api.ItChan, st.Name); i >= 0 {
		w.tells(st, n, w.file.Items[i].Label)
	}
}

// while asks for its expression's label first, and says nothing: the expression is asked again just where it was not 0, and so is under what comes of it.
func (w *walker) while(in scope, st api.Stmt, under int) {
	silent := quiet(w.file, w.floors)
	n := silent.secret(in, st.E, under)
	w.secret(in, st.E, n)
	w.block(in, st.Then, n)
}

// tells holds what a statement tells against who hears it.
func (w *walker) tells(st api.Stmt, secret, to int) {
	w.flows(secret, to, api.Diag{From: st.From, To: st.To, Name: st.Name})
}

// flows has where be wrong, unless from may be told to to.
func (w *walker) flows(from, to int, where api.Diag) {
	if !label.Flows(from, to) {
		where.Err = api.ErrFlow
		w.wrong(where)
	}
}

// secret is the Join of e's label and what it is under.
func (w *walker) secret(in scope, e api.Expr, under int) int {
	n := under
	switch e.Kind {
	case api.ExVar:
		n = label.Join(n, in(e.Name).label)
	case api.ExOp:
		for _, part := range e.Args {
			n = label.Join(n, w.secret(in, part, under))
		}
	case api.ExCall:
		n = label.Join(n, w.call(in, e, under))
	}
	w.heard(e, n)
	return n
}

// call has the label of the function that e calls. One that there is not takes everything, and tells nothing.
func (w *walker) call(in scope, e api.Expr, under int) int {
	fn, floor := api.Item{}, api.Top
	if i := names.Find(w.file, api.ItFn, e.Name); i >= 0 {
		fn, floor = w.file.Items[i], w.floors[i]
	}
	for i, arg := range e.Args {
		n := w.secret(in, arg, under)
		if i < len(fn.Params) {
			p := fn.Params[i]
			w.flows(n, p.Label, api.Diag{From: arg.From, To: arg.To, Name: p.Name})
		}
	}
	w.flows(under, floor, api.Diag{From: e.From, To: e.To, Name: e.Name})
	return fn.Label
}
