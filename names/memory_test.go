package names

import (
	"fmt"
	"math"
	"reflect"
	"strings"
	"testing"

	"undertone/api"
	"undertone/parse"
)

// own copies a file with all that it has.
func own(f api.File) api.File {
	var out api.File
	for _, it := range f.Items {
		out.Items = append(out.Items, parse.Own(it))
	}
	return out
}

// all has everything that is told of a file.
func all(f api.File, size int) string {
	var l []any
	for i := -1; i <= len(f.Items); i++ {
		l = append(l, Diags(f, i))
	}
	l = append(l, Uses(f))
	for at := 0; at < size; at += 7 {
		u, ok := At(f, at)
		l = append(l, u, ok)
	}
	return fmt.Sprint(l...)
}

func TestOnlyRead(t *testing.T) {
	texts(t, 300, func(s string, f api.File) {
		was, told := own(f), all(f, len(s))
		if !reflect.DeepEqual(f, was) {
			t.Fatalf("who asks of %q changes it", s)
		}
		if again := all(f, len(s)); again != told {
			t.Fatalf("of %q is told\n%s, and then\n%s", s, told, again)
		}
	})
}

// wide copies a list, with room behind it in which something stands.
func wide[T any](l []T, more T) []T { return append(append([]T{}, l...), more)[:len(l)] }

func behind[T any](l []T) T { return l[:len(l)+1][len(l)] }

func wideExprs(l []api.Expr) []api.Expr {
	out := wide(l, api.Expr{Kind: api.ExVar, Name: "behind"})
	for i := range out {
		out[i].Args = wideExprs(out[i].Args)
	}
	return out
}

func wideStmts(l []api.Stmt) []api.Stmt {
	out := wide(l, api.Stmt{Kind: api.StSet, Name: "behind", E: api.Expr{Kind: api.ExVar, Name: "x"}})
	for i := range out {
		st := &out[i]
		st.Then, st.Else, st.E.Args = wideStmts(st.Then), wideStmts(st.Else), wideExprs(st.E.Args)
	}
	return out
}

// Lists without entries are nil or not, and what stands behind lists is none of them.
func TestRoomBehind(t *testing.T) {
	texts(t, 300, func(s string, f api.File) {
		g := api.File{Items: wide(f.Items, api.Item{Kind: api.ItFn, Name: "zed"})}
		for i := range g.Items {
			it := &g.Items[i]
			it.Params = wide(it.Params, api.Param{Name: "x"})
			it.Sends = wide(it.Sends, api.Ref{Name: "x"})
			it.Body = wideStmts(it.Body)
			it.Diags = wide(it.Diags, api.Diag{Name: "x"})
		}
		if got, want := all(g, len(s)), all(f, len(s)); got != want {
			t.Fatalf("with room behind lists of %q is told\n%s, not\n%s", s, got, want)
		}
		if got, want := Find(g, api.ItFn, "zed"), Find(f, api.ItFn, "zed"); got != want {
			t.Fatalf("with room behind the items of %q zed is %d, not %d", s, got, want)
		}
		for _, it := range g.Items {
			if behind(it.Params).Name != "x" || behind(it.Sends).Name != "x" || behind(it.Body).Name != "behind" {
				t.Fatalf("room behind lists of %q is changed", s)
			}
		}
	})
	if got := all(api.File{Items: []api.Item{}}, 3); got != all(api.File{}, 3) {
		t.Errorf("of no items is told %s", got)
	}
}

func TestAnswersAreNew(t *testing.T) {
	const s = "chan q: {};\nfn f(x: {}): {} sends q, q { y; x; send q x; z; f(); }"
	f := read(t, s)
	was, told := own(f), all(f, len(s))
	diags, uses := Diags(f, 1), Uses(f)
	for i := range diags[:cap(diags)] {
		diags[:cap(diags)][i] = api.Diag{Name: "wiped"}
	}
	for i := range uses[:cap(uses)] {
		uses[:cap(uses)][i] = api.Use{From: 1, To: 99}
	}
	if got := all(f, len(s)); got != told || !reflect.DeepEqual(f, was) {
		t.Errorf("who changes answers changes others: %s, not %s", got, told)
	}
	diags, uses = Diags(f, 1), Uses(f)
	want := fmt.Sprint(diags, uses)
	for i := range f.Items {
		f.Items[i] = api.Item{Name: "wiped"}
	}
	if got := fmt.Sprint(diags, uses); got != want {
		t.Errorf("who changes a file changes answers: %s, not %s", got, want)
	}
}

// relabel has all labels be another one.
func relabel(l []api.Stmt, n int) {
	for i := range l {
		l[i].Label, l[i].Open = n, !l[i].Open
		relabel(l[i].Then, n)
		relabel(l[i].Else, n)
	}
}

func TestOtherLabels(t *testing.T) {
	texts(t, 300, func(s string, f api.File) {
		want := all(f, len(s))
		for _, n := range []int{0, 5, api.Top} {
			g := own(f)
			for i := range g.Items {
				it := &g.Items[i]
				it.Label = n
				for k := range it.Params {
					it.Params[k].Label = n
				}
				relabel(it.Body, n)
			}
			if got := all(g, len(s)); got != want {
				t.Fatalf("with labels %d of %q is told\n%s, not\n%s", n, s, got, want)
			}
		}
	})
}

// Other sends may be many, without names, with texts that are no names, and anywhere.
func TestOtherSends(t *testing.T) {
	f := read(t, "chan q: {};\nfn f(): {} { send q 1; }\nchan fn: {};")
	f.Items[1].Sends = []api.Ref{{Name: "q", At: 4}, {Name: ""}, {Name: "no name", At: 1}, {Name: ""}, {Name: "fn", At: 20}, {Name: "q", At: -3}, {Name: "f", At: 2}, {Name: "no name", At: 0}}
	if got, want := fmt.Sprint(Diags(f, 1)), "[{1 8 6 no name} {20 22 6 fn} {-3 -2 7 q} {2 3 6 f} {0 7 6 no name} {0 7 7 no name}]"; got != want {
		t.Errorf("of other sends is wrong %s, not %s", got, want)
	}
	if got, want := fmt.Sprint(Uses(f)), "[{16 17 5} {9 10 5} {30 31 5}]"; got != want {
		t.Errorf("of other sends is used %s, not %s", got, want)
	}
	// Sends of what is no function mean nothing.
	f.Items[0].Sends, f.Items[2].Sends = []api.Ref{{Name: "q"}, {Name: "x"}}, []api.Ref{{Name: "q"}, {Name: "x"}}
	f.Items[1].Sends = nil
	if got, want := fmt.Sprint(Diags(f, 0), Diags(f, 1), Diags(f, 2), Uses(f)), "[] [] [] [{30 31 5}]"; got != want {
		t.Errorf("of sends of channels is told %s, not %s", got, want)
	}
	f.Items[1].Sends = []api.Ref{{Name: "q", At: math.MaxInt}, {Name: "q", At: math.MinInt}, {Name: strings.Repeat("q", 9999)}}
	if got := len(Diags(f, 1)); got != 2 || len(Uses(f)) != 3 {
		t.Errorf("of sends far off are wrong %d, and used %v", got, Uses(f))
	}
}

// Where two uses stand at one byte, the first one is told.
func TestFirstOfTwo(t *testing.T) {
	f := read(t, "chan long: {};\nchan q: {};\nfn f(): {} { send q 1; }")
	f.Items[2].Sends = []api.Ref{{Name: "q", At: 20}, {Name: "long", At: 18}}
	for at, want := range map[int]string{44: "{0 0 0} false", 45: "{45 49 5} true", 46: "{45 49 5} true", 47: "{47 48 20} true", 48: "{45 49 5} true", 49: "{0 0 0} false"} {
		u, ok := At(f, at)
		if got := fmt.Sprint(u, ok); got != want {
			t.Errorf("at byte %d stands %s, not %s", at, got, want)
		}
	}
}

// Many sends, and locals in as many blocks as there may be, come to an end.
func TestGreat(t *testing.T) {
	f := read(t, "chan q: {};\nfn f(): {} { }")
	for range 200000 {
		f.Items[1].Sends = append(f.Items[1].Sends, api.Ref{Name: "q"}, api.Ref{Name: "r"})
	}
	if got := len(Diags(f, 1)); got != 199999+200000+199999 || len(Uses(f)) != 200000 {
		t.Errorf("of many sends are wrong %d, and used %d", got, len(Uses(f)))
	}
	block := strings.Repeat("let x=x;", api.MaxStmts-1)
	s := "fn f(x: {}): {} {" + strings.Repeat(block+"if x{", api.MaxNest-2) + block
	f = read(t, s[:min(len(s), api.MaxText)])
	if got := len(Uses(f)); got < 400 || len(Diags(f, 0)) < 400 {
		t.Errorf("of %d bytes are used %d, and wrong %d", len(s), got, len(Diags(f, 0)))
	}
}
