package effect

import (
	"fmt"
	"math"
	"reflect"
	"strings"
	"testing"

	"undertone/api"
	"undertone/parse"
)

// own copies a file with all that it has.
func own(f api.File) api.File {
	var out api.File
	for _, it := range f.Items {
		out.Items = append(out.Items, parse.Own(it))
	}
	return out
}

// everything has all that is told of a file.
func everything(f api.File) string {
	l := []any{owns(f), All(f)}
	for i := -1; i <= len(f.Items); i++ {
		l = append(l, Diags(f, i))
	}
	return fmt.Sprint(l...)
}

func TestOnlyRead(t *testing.T) {
	texts(t, 300, func(s string, f api.File) {
		was, first := own(f), everything(f)
		if !reflect.DeepEqual(f, was) {
			t.Fatalf("who asks of %q changes it", s)
		}
		if again := everything(f); again != first {
			t.Fatalf("of %q is told\n%s, and then\n%s", s, first, again)
		}
	})
}

// wide copies a list, with room behind it in which something stands.
func wide[T any](l []T, more T) []T { return append(append([]T{}, l...), more)[:len(l)] }

func behind[T any](l []T) T { return l[:len(l)+1][len(l)] }

func wideExprs(l []api.Expr) []api.Expr {
	out := wide(l, api.Expr{Kind: api.ExCall, Name: "behind"})
	for i := range out {
		out[i].Args = wideExprs(out[i].Args)
	}
	return out
}

func wideStmts(l []api.Stmt) []api.Stmt {
	out := wide(l, api.Stmt{Kind: api.StSend, Name: "behind", E: api.Expr{Kind: api.ExCall, Name: "f"}})
	for i := range out {
		st := &out[i]
		st.Then, st.Else, st.E.Args = wideStmts(st.Then), wideStmts(st.Else), wideExprs(st.E.Args)
	}
	return out
}

// Lists without entries are nil or not, and what stands behind lists is none of them.
func TestRoomBehind(t *testing.T) {
	texts(t, 300, func(s string, f api.File) {
		g := api.File{Items: wide(f.Items, api.Item{Kind: api.ItFn, Name: "none", Body: []api.Stmt{{Kind: api.StSend, Name: "behind"}}})}
		for i := range g.Items {
			it := &g.Items[i]
			it.Sends = wide(it.Sends, api.Ref{Name: "q"})
			it.Body = wideStmts(it.Body)
		}
		if got, want := everything(g), everything(f); got != want {
			t.Fatalf("with room behind lists of %q is told\n%s, not\n%s", s, got, want)
		}
		for _, it := range g.Items {
			if behind(it.Sends).Name != "q" || behind(it.Body).Name != "behind" {
				t.Fatalf("room behind lists of %q is changed", s)
			}
		}
	})
	if got, want := everything(api.File{Items: []api.Item{}}), everything(api.File{}); got != want {
		t.Errorf("of no items is told %s, not %s", got, want)
	}
}

func wipe(l []string) {
	for i := range l[:cap(l)] {
		l[:cap(l)][i] = "wiped"
	}
}

// Lists that are answered are the caller's, with the room behind them.
func TestAnswersAreNew(t *testing.T) {
	f := read(t, "fn f(): {} { send p 1; send p 1; send q f(g()); send 1; }\nfn g(): {} { send q 1; }\nfn h(): {} { g(); }")
	was, first := own(f), everything(f)
	sends, calls := Own(f.Items[0])
	wipe(sends)
	if got, want := fmt.Sprint(calls), "[f g]"; got != want {
		t.Errorf("who changes sends changes calls: %s, not %s", got, want)
	}
	all := All(f)
	for i, l := range all {
		wipe(l)
		for k, other := range all[i+1:] {
			if strings.Contains(fmt.Sprint(other), "wiped") {
				t.Errorf("who changes what item %d sends to changes that of item %d", i, i+1+k)
			}
		}
	}
	diags := Diags(f, 0)
	for i := range diags[:cap(diags)] {
		diags[:cap(diags)][i] = api.Diag{Name: "wiped"}
	}
	if got := everything(f); got != first || !reflect.DeepEqual(f, was) {
		t.Errorf("who changes answers changes others: %s, not %s", got, first)
	}
	all, diags = All(f), Diags(f, 0)
	want := fmt.Sprint(all, diags)
	for i := range f.Items {
		f.Items[i].Body[0] = api.Stmt{Kind: api.StSend, Name: "wiped"}
		f.Items[i] = api.Item{Name: "wiped"}
	}
	if got := fmt.Sprint(all, diags); got != want {
		t.Errorf("who changes a file changes answers: %s, not %s", got, want)
	}
}

// Fields that a kind has not mean nothing, and kinds that there are not are none.
func TestOtherFields(t *testing.T) {
	call := api.Expr{Kind: api.ExCall, Name: "g"}
	inner := []api.Stmt{{Kind: api.StSend, Name: "c", E: call}}
	all := func(kind int) api.Stmt { return api.Stmt{Kind: kind, Name: "n", E: call, Then: inner, Else: inner} }
	for _, kind := range []int{api.ItChan, api.ItBad, 0, -1, 4, math.MaxInt, math.MinInt} {
		it := api.Item{Kind: kind, Name: "f", Body: inner}
		f := api.File{Items: []api.Item{it, {Kind: api.ItFn, Name: "e", Body: []api.Stmt{{Kind: api.StDo, E: api.Expr{Kind: api.ExCall, Name: "f"}}}}}}
		if got, want := fmt.Sprint(owns(f), "; ", alls(f), "; ", told(t, f)), ": / : f;  / ;  / "; got != want {
			t.Errorf("of an item of kind %d is told %s, not %s", kind, got, want)
		}
	}
	for kind, want := range map[int]string{
		api.StLet: ": g", api.StSet: ": g", api.StBack: ": g", api.StDo: ": g", api.StSend: "n: g", api.StIf: "c: g",
		api.StBad: ":", 0: ":", -1: ":", 9: ":", math.MaxInt: ":", math.MinInt: ":",
	} {
		if got := owns(api.File{Items: []api.Item{{Kind: api.ItFn, Body: []api.Stmt{all(kind)}}}}); got != want {
			t.Errorf("of a statement of kind %d is told %s, not %s", kind, got, want)
		}
	}
	while := api.Stmt{Kind: api.StWhile, E: api.Expr{Kind: api.ExInt}, Else: inner}
	if got := owns(api.File{Items: []api.Item{{Kind: api.ItFn, Body: []api.Stmt{while}}}}); got != ":" {
		t.Errorf("of what a while has not is told %s", got)
	}
	for _, kind := range []int{api.ExInt, api.ExVar, api.ExBad, 0, -1, 6, math.MaxInt, math.MinInt} {
		e := api.Expr{Kind: kind, Name: "n", Args: []api.Expr{call}}
		if got := owns(api.File{Items: []api.Item{{Kind: api.ItFn, Body: []api.Stmt{{Kind: api.StDo, E: e}}}}}); got != ":" {
			t.Errorf("of an expression of kind %d is told %s", kind, got)
		}
	}
}

// relabel has all labels be another one.
func relabel(l []api.Stmt, n int) {
	for i := range l {
		l[i].Label, l[i].Open = n, !l[i].Open
		relabel(l[i].Then, n)
		relabel(l[i].Else, n)
	}
}

func TestOtherLabels(t *testing.T) {
	texts(t, 300, func(s string, f api.File) {
		want := everything(f)
		for _, n := range []int{0, 5, api.Top} {
			g := own(f)
			for i := range g.Items {
				it := &g.Items[i]
				it.Label = n
				for k := range it.Params {
					it.Params[k].Label = n
				}
				relabel(it.Body, n)
			}
			if got := everything(g); got != want {
				t.Fatalf("with labels %d of %q is told\n%s, not\n%s", n, s, got, want)
			}
		}
	})
}

// Other sends may be many, said twice, without names, with texts that are no names, and anywhere.
func TestOtherSends(t *testing.T) {
	f := read(t, "chan c: {};\nfn f(): {} { send c 1; send d g(); send 1; }\nfn g(): {} { send e 1; }")
	for _, sends := range []struct {
		l    []api.Ref
		want string
	}{
		{nil, "c d e"},
		{[]api.Ref{}, "c d e"},
		{[]api.Ref{{Name: ""}, {Name: ""}}, "c d e"},
		{[]api.Ref{{Name: "d", At: -3}, {Name: "d", At: math.MaxInt}}, "c e"},
		{[]api.Ref{{Name: "e"}, {Name: "c"}, {Name: "x"}, {Name: "d"}, {Name: "e"}}, ""},
		{[]api.Ref{{Name: "C"}, {Name: "c "}, {Name: "cc"}, {Name: "c d e"}, {Name: "\x00"}}, "c d e"},
	} {
		f.Items[1].Sends = sends.l
		// What is no function may say what it will.
		f.Items[0].Sends = []api.Ref{{Name: "c"}, {Name: "e"}}
		if got, want := told(t, f), " / "+sends.want+" / e"; got != want {
			t.Errorf("with sends %v is wrong %s, not %s", sends.l, got, want)
		}
		if got, want := alls(f), " / c d e / e"; got != want {
			t.Errorf("with sends %v all is %s, not %s", sends.l, got, want)
		}
	}
}

// Much of everything comes to an end.
func TestGreat(t *testing.T) {
	f := read(t, "fn f(): {} { send c 1; send d 1; }")
	for range 200000 {
		f.Items[0].Sends = append(f.Items[0].Sends, api.Ref{Name: "d"}, api.Ref{Name: "e"})
	}
	if got, want := told(t, f), "c"; got != want {
		t.Errorf("with many sends is wrong %s, not %s", got, want)
	}
	// Each function calls each, itself too.
	s := ""
	for i := range api.MaxItems {
		s += fmt.Sprintf("fn f%d(): {} { send c%d 1; ", i, i)
		for k := range 15 {
			s += fmt.Sprintf("f%d();", (i+k)%api.MaxItems)
		}
		s += "}\n"
	}
	for i, l := range All(read(t, s)) {
		if len(l) != api.MaxItems {
			t.Errorf("where many call many item %d sends to %v", i, l)
		}
	}
}
