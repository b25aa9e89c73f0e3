package write

import (
	"strconv"
	"strings"

	"undertone/api"
	"undertone/label"
	"undertone/parse"
)

// writer is the text so far. Of kinds that there are not it writes nothing.
type writer struct {
	strings.Builder
	deep int // how many blocks are around what comes next
}

func (w *writer) put(l ...string) {
	for _, s := range l {
		w.WriteString(s)
	}
}

// begin has a line stand in as far as its block does.
func (w *writer) begin() {
	for range w.deep {
		w.put("  ")
	}
}

func (w *writer) item(it api.Item) {
	switch it.Kind {
	case api.ItChan:
		w.put("chan ", it.Name, ": ", label.Print(it.Label), ";\n")
	case api.ItFn:
		w.function(it)
	}
}

func (w *writer) function(it api.Item) {
	w.put("fn ", it.Name, "(")
	for i, p := range it.Params {
		w.comma(i)
		w.put(p.Name, ": ", label.Print(p.Label))
	}
	w.put("): ", label.Print(it.Label))
	for i, r := range it.Sends {
		if i == 0 {
			w.put(" sends ")
		}
		w.comma(i)
		w.put(r.Name)
	}
	w.put(" ")
	w.block(it.Body)
	w.put("\n")
}

// comma stands ahead of each part of a list but the first one.
func (w *writer) comma(i int) {
	if i > 0 {
		w.put(", ")
	}
}

func (w *writer) block(l []api.Stmt) {
	w.put("{\n")
	w.deep++
	for _, st := range l {
		w.stmt(st)
	}
	w.deep--
	w.begin()
	w.put("}")
}

func (w *writer) stmt(st api.Stmt) {
	ahead, ok := head(st)
	if !ok {
		return
	}
	w.begin()
	w.put(ahead)
	w.expr(st.E)
	switch st.Kind {
	case api.StIf, api.StWhile:
		w.blocks(st)
	default:
		w.put(";")
	}
	w.put("\n")
}

// head has what stands ahead of a statement's expression, and whether there is such a kind.
func head(st api.Stmt) (string, bool) {
	switch st.Kind {
	case api.StLet:
		if st.Open {
			return "let " + st.Name + " = ", true
		}
		return "let " + st.Name + ": " + label.Print(st.Label) + " = ", true
	case api.StSet:
		return st.Name + " = ", true
	case api.StSend:
		return "send " + st.Name + " ", true
	case api.StBack:
		return "return ", true
	case api.StDo:
		return "", true
	case api.StIf:
		return "if ", true
	case api.StWhile:
		return "while ", true
	}
	return "", false
}

func (w *writer) blocks(st api.Stmt) {
	w.put(" ")
	w.block(st.Then)
	if st.Kind == api.StIf && len(st.Else) > 0 {
		w.put(" else ")
		w.block(st.Else)
	}
}

func (w *writer) expr(e api.Expr) {
	switch e.Kind {
	case api.ExInt:
		w.put(strconv.Itoa(e.N))
	case api.ExVar:
		w.put(e.Name)
	case api.ExOp:
		w.op(e)
	case api.ExCall:
		w.put(e.Name, "(")
		for i, a := range e.Args {
			w.comma(i)
			w.expr(a)
		}
		w.put(")")
	}
}

// op asks more of what stands on the right, as of those that bind alike the left one comes first.
func (w *writer) op(e api.Expr) {
	bind := parse.Binds(e.Name)
	for i, a := range e.Args {
		if i > 0 {
			w.put(" ", e.Name, " ")
		}
		w.part(a, bind+min(i, 1))
	}
}

// part has an expression stand in parentheses, if it binds less tightly than that.
func (w *writer) part(e api.Expr, least int) {
	if e.Kind != api.ExOp || parse.Binds(e.Name) >= least {
		w.expr(e)
		return
	}
	w.put("(")
	w.expr(e)
	w.put(")")
}
