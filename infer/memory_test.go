package infer

import (
	"math"
	"reflect"
	"testing"

	"undertone/api"
)

func TestOnlyRead(t *testing.T) {
	texts(t, 600, 3, func(s string, f api.File) {
		was, first := own(f), Labels(f)
		if !reflect.DeepEqual(f, was) {
			t.Fatalf("who asks of %q changes it", s)
		}
		if again := Labels(f); !reflect.DeepEqual(again, first) {
			t.Fatalf("of %q comes\n%v, and then\n%v", s, first, again)
		}
	})
}

// wide copies a list, with room behind it in which something stands.
func wide[T any](l []T, more T) []T { return append(append([]T{}, l...), more)[:len(l)] }

func behind[T any](l []T) T { return l[:len(l)+1][len(l)] }

func wideExprs(l []api.Expr) []api.Expr {
	out := wide(l, api.Expr{Kind: api.ExVar, Name: "x"})
	for i := range out {
		out[i].Args = wideExprs(out[i].Args)
	}
	return out
}

func wideStmts(l []api.Stmt) []api.Stmt {
	out := wide(l, api.Stmt{Kind: api.StLet, Name: "behind", Open: true, E: api.Expr{Kind: api.ExVar, Name: "x"}})
	for i := range out {
		st := &out[i]
		st.Then, st.Else, st.E.Args = wideStmts(st.Then), wideStmts(st.Else), wideExprs(st.E.Args)
	}
	return out
}

func wideFile(f api.File) api.File {
	body := []api.Stmt{{Kind: api.StLet, Name: "behind", Open: true}}
	g := api.File{Items: wide(f.Items, api.Item{Kind: api.ItFn, Name: "g", Label: api.Top, Body: body})}
	for i := range g.Items {
		it := &g.Items[i]
		it.Params = wide(it.Params, api.Param{Name: "x", Label: api.Top})
		it.Sends = wide(it.Sends, api.Ref{Name: "c"})
		it.Diags = wide(it.Diags, api.Diag{Name: "behind"})
		it.Body = wideStmts(it.Body)
	}
	return g
}

func openBehind(l []api.Stmt) bool {
	ok := behind(l).Open && behind(l).Name == "behind"
	for _, st := range l {
		ok = ok && openBehind(st.Then) && openBehind(st.Else)
	}
	return ok
}

// same holds files against each other; lists without entries are nil or not.
func same(a, b api.File) bool { return reflect.DeepEqual(wideFile(a), wideFile(b)) }

// Lists without entries are nil or not, and what stands behind lists is none of them.
func TestRoomBehind(t *testing.T) {
	texts(t, 600, 3, func(s string, f api.File) {
		g := wideFile(f)
		if got, want := Labels(g), Labels(f); !same(got, want) {
			t.Fatalf("with room behind lists of %q comes\n%v, not\n%v", s, got, want)
		}
		if !behind(g.Items).Body[0].Open {
			t.Fatalf("room behind items of %q is changed", s)
		}
		for _, it := range g.Items {
			if !openBehind(it.Body) || behind(it.Params).Label != api.Top || behind(it.Sends).Name != "c" || behind(it.Diags).Name != "behind" {
				t.Fatalf("room behind lists of %q is changed", s)
			}
		}
	})
}

// wipe changes a list, with the room behind it.
func wipe[T any](l []T) {
	var none T
	for i := range l[:cap(l)] {
		l[:cap(l)][i] = none
	}
}

func wipeExprs(l []api.Expr) {
	for _, e := range l {
		wipeExprs(e.Args)
	}
	wipe(l)
}

func wipeStmts(l []api.Stmt) {
	for _, st := range l {
		wipeStmts(st.Then)
		wipeStmts(st.Else)
		wipeExprs(st.E.Args)
	}
	wipe(l)
}

func wipeFile(f api.File) {
	for _, it := range f.Items {
		wipe(it.Params)
		wipe(it.Sends)
		wipe(it.Diags)
		wipeStmts(it.Body)
	}
	wipe(f.Items)
}

// What is answered is the caller's, all of it, with the room behind it.
func TestAnswersAreNew(t *testing.T) {
	texts(t, 600, 3, func(s string, f api.File) {
		f = wideFile(f)
		was := wideFile(f)
		wipeFile(Labels(f))
		ok := same(f, was)
		for _, it := range f.Items {
			ok = ok && openBehind(it.Body) && behind(it.Diags).Name == "behind"
		}
		if !ok {
			t.Fatalf("who changes what comes of %q changes it", s)
		}
		got, want := Labels(f), Labels(was)
		wipeFile(f)
		if !same(got, want) {
			t.Fatalf("who changes %q changes what came of it", s)
		}
	})
}

// eachLabel has each label of f, those of lets too, be another one.
func eachLabel(f api.File, other func(n int) int) api.File {
	g := own(f)
	for i := range g.Items {
		it := &g.Items[i]
		it.Label = other(it.Label)
		for k := range it.Params {
			it.Params[k].Label = other(it.Params[k].Label)
		}
		eachLet(it.Body, func(st *api.Stmt) { st.Label = other(st.Label) })
	}
	return g
}

// What has its labels keeps them; opened again it comes to the same; and what an open let has in the place of one means nothing.
func TestAgain(t *testing.T) {
	texts(t, 600, 3, func(s string, f api.File) {
		found := Labels(f)
		if got := Labels(found); !reflect.DeepEqual(got, found) {
			t.Fatalf("of what comes of %q comes\n%v, not\n%v", s, got, found)
		}
		for _, n := range []int{-1, 0, 5, api.Top, math.MaxInt, math.MinInt} {
			g, all := opened(found, f)
			for _, open := range all {
				for _, st := range open {
					st.Open, st.Label = true, n
				}
			}
			if got := Labels(g); !reflect.DeepEqual(got, found) {
				t.Fatalf("of %q with %d in open lets comes\n%v, not\n%v", s, n, got, found)
			}
		}
	})
}

// No tag is other than the others, and each goes by itself.
func TestOtherLabels(t *testing.T) {
	turned := func(n int) int { return (n<<1 | n>>(api.Tags-1)) & api.Top }
	texts(t, 600, 3, func(s string, f api.File) {
		found := Labels(f)
		if got, want := Labels(eachLabel(f, turned)), eachLabel(found, turned); !reflect.DeepEqual(got, want) {
			t.Fatalf("with other labels of %q comes\n%v, not\n%v", s, got, want)
		}
		for _, tag := range []int{0, 1, 2, 4} {
			one := func(n int) int { return n & tag }
			if got, want := Labels(eachLabel(f, one)), eachLabel(found, one); !reflect.DeepEqual(got, want) {
				t.Fatalf("with just %d of labels of %q comes\n%v, not\n%v", tag, s, got, want)
			}
		}
		for _, n := range []int{-1, 256, math.MaxInt, math.MinInt} {
			Labels(eachLabel(f, func(int) int { return n }))
		}
	})
}

// What functions say that they send has nothing to do with it, nor have channels.
func TestOtherSends(t *testing.T) {
	for _, l := range [][]api.Ref{nil, {}, {{Name: "c"}}, {{Name: ""}, {Name: "none", At: math.MinInt}, {Name: "c", At: math.MaxInt}, {Name: "c"}}} {
		texts(t, 200, 3, func(s string, f api.File) {
			g, want := own(f), Labels(f)
			for i := range g.Items {
				g.Items[i].Sends, want.Items[i].Sends = l, l
			}
			if got := Labels(g); !same(got, want) {
				t.Fatalf("with sends %v of %q comes\n%v, not\n%v", l, s, got, want)
			}
		})
	}
}
