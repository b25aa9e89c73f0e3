package parse

import (
	"undertone/api"
	"undertone/lex"
)

func (r *reader) block() []api.Stmt {
	if !r.need("{") {
		return nil
	}
	if r.deep == api.MaxNest {
		r.tell(api.ErrDeep)
		return nil
	}
	r.enter()
	defer r.leave()
	var out []api.Stmt
	for r.more(len(out), api.MaxStmts, "}") {
		out = append(out, r.stmt())
	}
	r.need("}")
	return out
}

func (r *reader) stmt() api.Stmt {
	t := r.peek()
	var st api.Stmt
	switch {
	case r.take("let"):
		st = r.let()
	case r.take("if"):
		st = r.choice()
	case r.take("while"):
		st = r.loop()
	case r.take("send"):
		st = r.send()
	case r.take("return"):
		st = api.Stmt{Kind: api.StBack, E: r.closed()}
	case lex.Name(t.Text):
		st = r.setOrDo()
	default:
		r.tell(api.ErrForm)
		r.pass()
		return api.Stmt{Kind: api.StBad, From: t.At, To: t.At}
	}
	// One that is an expression alone is empty, if that would be too deep.
	st.From, st.To = t.At, max(t.At, r.end)
	return st
}

func (r *reader) let() api.Stmt {
	st := api.Stmt{Kind: api.StLet, At: r.peek().At}
	st.Name = r.name()
	st.Open = !r.take(":")
	if !st.Open {
		st.Label = r.label()
	}
	r.need("=")
	st.E = r.closed()
	return st
}

func (r *reader) choice() api.Stmt {
	st := api.Stmt{Kind: api.StIf, E: r.expr()}
	st.Then = r.block()
	if r.take("else") {
		st.Else = r.block()
	}
	return st
}

func (r *reader) loop() api.Stmt {
	st := api.Stmt{Kind: api.StWhile, E: r.expr()}
	st.Then = r.block()
	return st
}

func (r *reader) send() api.Stmt {
	st := api.Stmt{Kind: api.StSend, At: r.peek().At}
	st.Name = r.name()
	st.E = r.closed()
	return st
}

// setOrDo looks at the token behind the name, as `=` is a sign of expressions too.
func (r *reader) setOrDo() api.Stmt {
	if r.gone+1 == len(r.toks) || r.toks[r.gone+1].Text != "=" {
		return api.Stmt{Kind: api.StDo, E: r.closed()}
	}
	t := r.pass()
	r.pass()
	return api.Stmt{Kind: api.StSet, At: t.At, Name: t.Text, E: r.closed()}
}

// closed reads an expression and its `;`.
func (r *reader) closed() api.Expr {
	e := r.expr()
	r.need(";")
	return e
}
