package parse

import (
	"strconv"

	"undertone/api"
	"undertone/lex"
)

// How tightly signs bind.
const (
	loosest  = 1
	tightest = 3
)

// Binds tells how tightly what stands between expressions binds, and 0 of what doesn't.
func Binds(text string) int {
	switch text {
	case "=", "<":
		return loosest
	case "+", "-":
		return 2
	case "*":
		return tightest
	}
	return 0
}

func (r *reader) expr() api.Expr {
	if r.deep < api.MaxNest {
		return r.chain(loosest)
	}
	if r.opens() {
		return r.none(api.ErrDeep)
	}
	return r.none(api.ErrForm)
}

// opens tells whether the next token begins an expression.
func (r *reader) opens() bool {
	t := r.peek()
	return t.Kind == api.TokInt || lex.Name(t.Text) || t.Text == "("
}

// chain reads expressions with signs between that bind as tightly as that, or more.
func (r *reader) chain(bind int) api.Expr {
	if bind > tightest {
		return r.single()
	}
	left := r.chain(bind + 1)
	for Binds(r.peek().Text) == bind {
		sign := r.pass().Text
		right := r.chain(bind + 1)
		left = api.Expr{Kind: api.ExOp, Name: sign, Args: []api.Expr{left, right}, From: left.From, To: max(left.To, right.To)}
	}
	return left
}

// single reads an expression without signs around it.
func (r *reader) single() api.Expr {
	if !r.opens() {
		return r.none(api.ErrForm)
	}
	if r.is("(") {
		return r.grouped()
	}
	if r.peek().Kind == api.TokInt {
		return r.number()
	}
	return r.named()
}

// none stands for an expression that isn't there, right ahead of the next token.
func (r *reader) none(err api.Errno) api.Expr {
	r.tell(err)
	at := r.peek().At
	return api.Expr{Kind: api.ExBad, From: at, To: at}
}

func (r *reader) number() api.Expr {
	n, err := strconv.Atoi(r.peek().Text)
	if err != nil || n > api.MaxNum {
		r.tell(api.ErrRange)
		n = 0
	}
	t := r.pass()
	return api.Expr{Kind: api.ExInt, N: n, From: t.At, To: r.end}
}

func (r *reader) grouped() api.Expr {
	r.enter()
	defer r.leave()
	r.pass()
	e := r.expr()
	r.need(")")
	return e
}

func (r *reader) named() api.Expr {
	t := r.pass()
	if !r.take("(") {
		return api.Expr{Kind: api.ExVar, Name: t.Text, From: t.At, To: r.end}
	}
	e := api.Expr{Kind: api.ExCall, Name: t.Text, Args: r.args(), From: t.At}
	r.need(")")
	e.To = r.end
	// An argument that is missing stands behind the last token.
	for _, a := range e.Args {
		e.To = max(e.To, a.To)
	}
	return e
}

func (r *reader) args() []api.Expr {
	r.enter()
	defer r.leave()
	var out []api.Expr
	for r.more(len(out), api.MaxParams, ")") {
		out = append(out, r.expr())
		if !r.take(",") {
			break
		}
	}
	return out
}
