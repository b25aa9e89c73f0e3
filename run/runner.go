package run

import (
	"undertone/api"
	"undertone/names"
)

// runner runs functions of a file with which nothing is wrong: all that they name is there. Once err tells something no step is taken any more, so that everything comes to its end, and what comes of it no longer means anything.
type runner struct {
	file   api.File
	steps  int
	events []api.Event
	err    api.Errno
}

// stop keeps the error that came first.
func (r *runner) stop(err api.Errno) {
	if r.err == api.OK {
		r.err = err
	}
}

// step takes one more, and tells whether it could.
func (r *runner) step() bool {
	if r.steps == api.MaxFuel {
		r.stop(api.ErrFuel)
	}
	if r.err != api.OK {
		return false
	}
	r.steps++
	return true
}

// call has what comes of function i, called in that many others.
func (r *runner) call(i int, args []int, others int) int {
	if others == api.MaxCall {
		r.stop(api.ErrDeep)
		return 0
	}
	fn := r.file.Items[i]
	in := &frame{others: others}
	for k, p := range fn.Params {
		in.add(p.Name, args[k])
	}
	r.block(in, fn.Body)
	return in.back
}

// block has what is made in it be gone behind it.
func (r *runner) block(in *frame, l []api.Stmt) {
	around := len(in.locals)
	for _, st := range l {
		r.stmt(in, st)
	}
	in.locals = in.locals[:around]
}

func (r *runner) stmt(in *frame, st api.Stmt) {
	if st.Kind == api.StWhile {
		r.while(in, st)
		return
	}
	if !r.step() {
		return
	}
	n := r.expr(in, st.E)
	switch st.Kind {
	case api.StLet:
		in.add(st.Name, n)
	case api.StSet:
		in.meant(st.Name).n = n
	case api.StSend:
		r.events = append(r.events, api.Event{Chan: st.Name, N: n})
	case api.StBack:
		in.back = n
	case api.StIf:
		r.choose(in, st, n)
	}
}

func (r *runner) choose(in *frame, st api.Stmt, n int) {
	if n != 0 {
		r.block(in, st.Then)
	} else {
		r.block(in, st.Else)
	}
}

// while takes a step each time that it asks, and none for itself.
func (r *runner) while(in *frame, st api.Stmt) {
	for r.step() && r.expr(in, st.E) != 0 {
		r.block(in, st.Then)
	}
}

func (r *runner) expr(in *frame, e api.Expr) int {
	if !r.step() {
		return 0
	}
	switch e.Kind {
	case api.ExInt:
		return e.N
	case api.ExVar:
		return in.meant(e.Name).n
	case api.ExOp:
		return operate(e.Name, r.exprs(in, e.Args))
	case api.ExCall:
		args := r.exprs(in, e.Args)
		return r.call(names.Find(r.file, api.ItFn, e.Name), args, in.others+1)
	}
	return 0
}

// exprs asks from the left.
func (r *runner) exprs(in *frame, l []api.Expr) []int {
	out := make([]int, len(l))
	for i, e := range l {
		out[i] = r.expr(in, e)
	}
	return out
}

func operate(sign string, two []int) int {
	if len(two) != 2 {
		return 0
	}
	a, b := two[0], two[1]
	switch sign {
	case "+":
		return a + b
	case "-":
		return a - b
	case "*":
		return a * b
	case "<":
		return truth(a < b)
	case "=":
		return truth(a == b)
	}
	return 0
}

func truth(holds bool) int {
	if holds {
		return 1
	}
	return 0
}
