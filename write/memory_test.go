package write

import (
	"reflect"
	"testing"

	"undertone/api"
)

func TestOnlyRead(t *testing.T) {
	all(t, 600, func(s string, f api.File) {
		was, text, plain := own(f), File(f), Plain(f)
		if !reflect.DeepEqual(f, was) {
			t.Fatalf("who asks of %q changes it", s)
		}
		if again := File(f); again != text {
			t.Fatalf("of %q is written\n%s, and then\n%s", s, text, again)
		}
		if again := Plain(f); !reflect.DeepEqual(again, plain) {
			t.Fatalf("of %q comes\n%v, and then\n%v", s, plain, again)
		}
	})
}

// wide copies a list, with room behind it in which something stands.
func wide[T any](l []T, more T) []T { return append(append([]T{}, l...), more)[:len(l)] }

func behind[T any](l []T) T { return l[:len(l)+1][len(l)] }

func wideExprs(l []api.Expr) []api.Expr {
	out := wide(l, api.Expr{Kind: api.ExVar, Name: "behind", From: 5})
	for i := range out {
		out[i].Args = wideExprs(out[i].Args)
	}
	return out
}

func wideStmts(l []api.Stmt) []api.Stmt {
	out := wide(l, api.Stmt{Kind: api.StDo, Name: "behind", From: 5})
	for i := range out {
		st := &out[i]
		st.Then, st.Else, st.E.Args = wideStmts(st.Then), wideStmts(st.Else), wideExprs(st.E.Args)
	}
	return out
}

func wideFile(f api.File) api.File {
	g := api.File{Items: wide(f.Items, api.Item{Kind: api.ItChan, Name: "behind", At: 5})}
	for i := range g.Items {
		it := &g.Items[i]
		it.Params = wide(it.Params, api.Param{Name: "behind", At: 5})
		it.Sends = wide(it.Sends, api.Ref{Name: "behind", At: 5})
		it.Diags = wide(it.Diags, api.Diag{Name: "behind", From: 5})
		it.Body = wideStmts(it.Body)
	}
	return g
}

func exprsBehind(l []api.Expr) bool {
	ok := behind(l).Name == "behind" && behind(l).From == 5
	for _, e := range l {
		ok = ok && exprsBehind(e.Args)
	}
	return ok
}

func stmtsBehind(l []api.Stmt) bool {
	ok := behind(l).Name == "behind" && behind(l).From == 5
	for _, st := range l {
		ok = ok && stmtsBehind(st.Then) && stmtsBehind(st.Else) && exprsBehind(st.E.Args)
	}
	return ok
}

func allBehind(f api.File) bool {
	ok := behind(f.Items).Name == "behind" && behind(f.Items).At == 5
	for _, it := range f.Items {
		ok = ok && stmtsBehind(it.Body) && behind(it.Params).At == 5 && behind(it.Sends).At == 5 && behind(it.Diags).From == 5
	}
	return ok
}

// same holds files against each other; lists without entries are nil or not.
func same(a, b api.File) bool { return reflect.DeepEqual(wideFile(a), wideFile(b)) }

// Lists without entries are nil or not, and what stands behind lists is none of them.
func TestRoomBehind(t *testing.T) {
	all(t, 600, func(s string, f api.File) {
		g := wideFile(f)
		if got, want := File(g), File(f); got != want {
			t.Fatalf("with room behind lists of %q is written\n%s, not\n%s", s, got, want)
		}
		if got, want := Plain(g), Plain(f); !same(got, want) {
			t.Fatalf("with room behind lists of %q comes\n%v, not\n%v", s, got, want)
		}
		if !allBehind(g) {
			t.Fatalf("room behind lists of %q is changed", s)
		}
	})
}

// wipe changes a list, with the room behind it.
func wipe[T any](l []T) {
	var none T
	for i := range l[:cap(l)] {
		l[:cap(l)][i] = none
	}
}

func wipeExprs(l []api.Expr) {
	for _, e := range l {
		wipeExprs(e.Args)
	}
	wipe(l)
}

func wipeStmts(l []api.Stmt) {
	for _, st := range l {
		wipeStmts(st.Then)
		wipeStmts(st.Else)
		wipeExprs(st.E.Args)
	}
	wipe(l)
}

func wipeFile(f api.File) {
	for _, it := range f.Items {
		wipe(it.Params)
		wipe(it.Sends)
		wipe(it.Diags)
		wipeStmts(it.Body)
	}
	wipe(f.Items)
}

// What is answered is the caller's, all of it, with the room behind it.
func TestAnswersAreNew(t *testing.T) {
	all(t, 600, func(s string, f api.File) {
		f = wideFile(f)
		was := wideFile(f)
		wipeFile(Plain(f))
		if !same(f, was) || !allBehind(f) {
			t.Fatalf("who changes what comes of %q changes it", s)
		}
		got, want := Plain(f), Plain(was)
		text := File(f)
		wipeFile(f)
		if !same(got, want) || text != File(was) {
			t.Fatalf("who changes %q changes what came of it", s)
		}
	})
}
