package parse

import (
	"fmt"
	"slices"
	"strings"

	"undertone/api"
)

// named has `~` for an empty name.
func named(s string) string {
	if s == "" {
		return "~"
	}
	return s
}

// shape tells an item without places: by it tables say what must be read.
func shape(it api.Item) string {
	var l []string
	for _, p := range it.Params {
		l = append(l, fmt.Sprint(named(p.Name), ":", p.Label))
	}
	for _, r := range it.Sends {
		l = append(l, "!"+named(r.Name))
	}
	switch it.Kind {
	case api.ItFn:
		return fmt.Sprintf("fn %s(%s):%d %s", named(it.Name), strings.Join(l, " "), it.Label, shapes(it.Body))
	case api.ItChan:
		return fmt.Sprintf("chan %s%s:%d%s", named(it.Name), strings.Join(l, " "), it.Label, strings.Repeat("?", len(it.Body)))
	case api.ItBad:
		return fmt.Sprintf("bad%s%s%s", it.Name, strings.Join(l, " "), strings.Repeat("?", len(it.Body)))
	}
	return fmt.Sprint("kind ", it.Kind)
}

func shapes(l []api.Stmt) string {
	var out []string
	for _, st := range l {
		out = append(out, shapeOf(st))
	}
	return "{" + strings.Join(out, " ") + "}"
}

func shapeOf(st api.Stmt) string {
	e := shapeOfExpr(st.E)
	switch st.Kind {
	case api.StLet:
		if st.Open {
			return fmt.Sprintf("let %s=%s;", named(st.Name), e)
		}
		return fmt.Sprintf("let %s:%d=%s;", named(st.Name), st.Label, e)
	case api.StSet:
		return named(st.Name) + "=" + e + ";"
	case api.StIf:
		return "if " + e + shapes(st.Then) + shapes(st.Else)
	case api.StWhile:
		return "while " + e + shapes(st.Then)
	case api.StSend:
		return "send " + named(st.Name) + " " + e + ";"
	case api.StBack:
		return "return " + e + ";"
	case api.StDo:
		return e + ";"
	case api.StBad:
		return "bad"
	}
	return fmt.Sprint("kind ", st.Kind)
}

func shapeOfExpr(e api.Expr) string {
	var l []string
	for _, a := range e.Args {
		l = append(l, shapeOfExpr(a))
	}
	switch e.Kind {
	case api.ExInt:
		return fmt.Sprint(e.N)
	case api.ExVar:
		return named(e.Name)
	case api.ExOp:
		return "(" + strings.Join(l, e.Name) + ")"
	case api.ExCall:
		return named(e.Name) + "(" + strings.Join(l, ",") + ")"
	case api.ExBad:
		return "?"
	}
	return fmt.Sprint("kind ", e.Kind)
}

var words = map[api.Errno]string{api.ErrForm: "form", api.ErrRange: "range", api.ErrMany: "many", api.ErrName: "name", api.ErrDeep: "deep"}

// told tells diags: what is wrong, where, and with which token; at the end without one.
func told(l []api.Diag) string {
	var out []string
	for _, d := range l {
		out = append(out, strings.TrimSpace(fmt.Sprint(words[d.Err], " ", d.From, " ", d.Name)))
	}
	return strings.Join(out, "; ")
}

// spans has the bytes of all statements, in `|`, each with its expressions behind it, in `[]`.
func spans(s string, l []api.Stmt) string {
	var out strings.Builder
	for _, st := range l {
		out.WriteString("|" + s[st.From:st.To] + "|")
		if st.E.Kind != 0 {
			out.WriteString(exprSpans(s, st.E))
		}
		out.WriteString(spans(s, st.Then) + spans(s, st.Else))
	}
	return out.String()
}

func exprSpans(s string, e api.Expr) string {
	out := "[" + s[e.From:e.To] + "]"
	for _, a := range e.Args {
		out += exprSpans(s, a)
	}
	return out
}

// each calls f with all expressions of the statements, and all statements.
func each(l []api.Stmt, f func(st api.Stmt), g func(e api.Expr)) {
	var inner func(e api.Expr)
	inner = func(e api.Expr) {
		g(e)
		for _, a := range e.Args {
			inner(a)
		}
	}
	for _, st := range l {
		f(st)
		if st.Kind != api.StBad {
			inner(st.E)
		}
		each(st.Then, f, g)
		each(st.Else, f, g)
	}
}

// fit tells what can't be in any item that was read of s, or nothing.
func fit(s string, it api.Item) string {
	var out []string
	wrong := func(ok bool, what string, x any) {
		if !ok {
			out = append(out, fmt.Sprint(what, ": ", x))
		}
	}
	wrong(it.Size == len(s) && it.Mark >= 0 && it.Mark <= len(s), "size or mark", it)
	at := 0
	for _, d := range it.Diags {
		wrong(d.From >= at && d.To <= len(s) && d.From <= d.To && s[d.From:d.To] == d.Name, "diag", d)
		wrong(d.Name != "" || d.From == len(s), "diag without a token", d)
		at = d.From
	}
	wrong(slices.ContainsFunc(it.Diags, func(d api.Diag) bool { return words[d.Err] == "" }) == false, "error", it.Diags)
	wrong(len(it.Params) <= api.MaxParams && len(it.Body) <= api.MaxStmts, "too many", it)
	each(it.Body, func(st api.Stmt) {
		wrong(st.From >= 0 && st.From <= st.To && st.To <= len(s), "places of", st)
		wrong(len(st.Then) <= api.MaxStmts && len(st.Else) <= api.MaxStmts, "too many", st)
		wrong(st.Kind != api.StBad || st.From == st.To && st.E.Kind == 0, "bytes of", st)
	}, func(e api.Expr) {
		wrong(e.From >= 0 && e.From <= e.To && e.To <= len(s), "places of", e)
		wrong(e.Kind != api.ExBad || e.From == e.To && len(it.Diags) > 0, "bytes of", e)
		wrong(e.Kind != api.ExVar || s[e.From:e.To] == e.Name, "bytes of", e)
		for _, a := range e.Args {
			wrong(a.From >= e.From && a.To <= e.To, "a part stands outside of", e)
		}
	})
	return strings.Join(out, "\n")
}
