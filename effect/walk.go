package effect

import "undertone/api"

// walker goes through statements, and tells of each name to which one sends, and of each that is called.
type walker struct{ sends, calls func(name string) }

func (w walker) block(l []api.Stmt) {
	for _, st := range l {
		w.stmt(st)
	}
}

// stmt looks at just what st's kind has: what stands in other fields means nothing.
func (w walker) stmt(st api.Stmt) {
	switch st.Kind {
	case api.StLet, api.StSet, api.StBack, api.StDo:
		w.expr(st.E)
	case api.StSend:
		w.expr(st.E)
		w.sends(st.Name)
	case api.StIf:
		w.expr(st.E)
		w.block(st.Then)
		w.block(st.Else)
	case api.StWhile:
		w.expr(st.E)
		w.block(st.Then)
	}
}

func (w walker) expr(e api.Expr) {
	switch e.Kind {
	case api.ExOp:
		w.exprs(e.Args)
	case api.ExCall:
		w.calls(e.Name)
		w.exprs(e.Args)
	}
}

func (w walker) exprs(l []api.Expr) {
	for _, e := range l {
		w.expr(e)
	}
}
