package flow

import (
	"fmt"
	"math"
	"reflect"
	"slices"
	"strings"
	"testing"

	"undertone/api"
	"undertone/parse"
)

// own copies a file with all that it has.
func own(f api.File) api.File {
	var out api.File
	for _, it := range f.Items {
		out.Items = append(out.Items, parse.Own(it))
	}
	return out
}

// everything has all that is told of a file.
func everything(f api.File) string {
	l := []any{Floors(f), Sound(f)}
	for i := -1; i <= len(f.Items); i++ {
		l = append(l, Diags(f, i), Lets(f, i))
		for at := 0; at < 200; at += 7 {
			n, ok := Label(f, i, at)
			l = append(l, n, ok)
		}
	}
	return fmt.Sprint(l...)
}

func TestOnlyRead(t *testing.T) {
	texts(t, 300, func(s string, f api.File) {
		was, first := own(f), everything(f)
		if !reflect.DeepEqual(f, was) {
			t.Fatalf("who asks of %q changes it", s)
		}
		if again := everything(f); again != first {
			t.Fatalf("of %q is told\n%s, and then\n%s", s, first, again)
		}
	})
}

// wide copies a list, with room behind it in which something stands.
func wide[T any](l []T, more T) []T { return append(append([]T{}, l...), more)[:len(l)] }

func behind[T any](l []T) T { return l[:len(l)+1][len(l)] }

func wideExprs(l []api.Expr) []api.Expr {
	out := wide(l, api.Expr{Kind: api.ExCall, Name: "f", To: 200, Args: []api.Expr{{Kind: api.ExVar, Name: "x"}}})
	for i := range out {
		out[i].Args = wideExprs(out[i].Args)
	}
	return out
}

func wideStmts(l []api.Stmt) []api.Stmt {
	out := wide(l, api.Stmt{Kind: api.StSet, Name: "behind", E: api.Expr{Kind: api.ExVar, Name: "x", To: 200}})
	for i := range out {
		st := &out[i]
		st.Then, st.Else, st.E.Args = wideStmts(st.Then), wideStmts(st.Else), wideExprs(st.E.Args)
	}
	return out
}

// Lists without entries are nil or not, and what stands behind lists is none of them.
func TestRoomBehind(t *testing.T) {
	texts(t, 300, func(s string, f api.File) {
		g := api.File{Items: wide(f.Items, api.Item{Kind: api.ItFn, Name: "k", Label: api.Top, Body: []api.Stmt{{Kind: api.StSet, Name: "behind", E: api.Expr{Kind: api.ExCall, Name: "k"}}}})}
		for i := range g.Items {
			it := &g.Items[i]
			it.Params = wide(it.Params, api.Param{Name: "x", Label: 3})
			it.Sends = wide(it.Sends, api.Ref{Name: "c"})
			it.Body = wideStmts(it.Body)
		}
		if got, want := everything(g), everything(f); got != want {
			t.Fatalf("with room behind lists of %q is told\n%s, not\n%s", s, got, want)
		}
		for _, it := range g.Items {
			if behind(it.Params).Name != "x" || behind(it.Sends).Name != "c" || behind(it.Body).Name != "behind" {
				t.Fatalf("room behind lists of %q is changed", s)
			}
		}
	})
	if got, want := everything(api.File{Items: []api.Item{}}), everything(api.File{}); got != want {
		t.Errorf("of no items is told %s, not %s", got, want)
	}
}

// Lists that are answered are the caller's, with the room behind them.
func TestAnswersAreNew(t *testing.T) {
	f := read(t, "chan c: {};\nfn f(x: {a}): {} sends c { let y = x; send c x; return x; f(x); if x { f(1); x = 2; let z: {} = 1; } }\nfn g(x: {a}): {} { return x; }")
	was, first := own(f), everything(f)
	diags, low, lets := Diags(f, 1), Floors(f), Lets(f, 1)
	for i := range diags[:cap(diags)] {
		diags[:cap(diags)][i] = api.Diag{Name: "wiped"}
	}
	for i := range low[:cap(low)] {
		low[:cap(low)][i] = -1
	}
	for i := range lets[:cap(lets)] {
		lets[:cap(lets)][i] = -1
	}
	if got := everything(f); got != first || !reflect.DeepEqual(f, was) {
		t.Errorf("who changes answers changes others: %s, not %s", got, first)
	}
	diags, low, lets = Diags(f, 1), Floors(f), Lets(f, 1)
	want := fmt.Sprint(diags, low, lets)
	for i := range f.Items {
		f.Items[i] = api.Item{Name: "wiped"}
	}
	if got := fmt.Sprint(diags, low, lets); got != want {
		t.Errorf("who changes a file changes answers: %s, not %s", got, want)
	}
}

// relabelStmts has each label of a let be another one.
func relabelStmts(l []api.Stmt, other func(n int) int) {
	for i := range l {
		l[i].Label = other(l[i].Label)
		relabelStmts(l[i].Then, other)
		relabelStmts(l[i].Else, other)
	}
}

// relabel has a copy of f with other labels.
func relabel(f api.File, other func(n int) int) api.File {
	g := own(f)
	for i := range g.Items {
		it := &g.Items[i]
		it.Label = other(it.Label)
		for k := range it.Params {
			it.Params[k].Label = other(it.Params[k].Label)
		}
		relabelStmts(it.Body, other)
	}
	return g
}

// Tags know nothing of one another: what is wrong is what is wrong with one of them, and labels have the tags that they have with one at a time.
func TestTagByTag(t *testing.T) {
	texts(t, 120, func(s string, f api.File) {
		for i, it := range f.Items {
			all := map[api.Diag]int{}
			labels := make([]int, it.Size)
			for tag := 1; tag < api.Top; tag *= 2 {
				g := relabel(f, func(n int) int { return n & tag })
				for _, d := range Diags(g, i) {
					all[d]++
				}
				for at := range labels {
					n, _ := Label(g, i, at)
					labels[at] |= n
				}
			}
			diags := Diags(f, i)
			for _, d := range diags {
				if all[d] == 0 {
					t.Fatalf("of item %d of %q %v is wrong with no tag", i, s, d)
				}
				delete(all, d)
			}
			if len(all) != 0 {
				t.Fatalf("of item %d of %q is wrong %v, and with one tag %v", i, s, diags, all)
			}
			for at, want := range labels {
				if n, _ := Label(f, i, at); n != want {
					t.Fatalf("at byte %d of item %d of %q stands %d, not %d", at, i, s, n, want)
				}
			}
		}
	})
}

// turned has tag a be b, b be c, and so on.
func turned(n int) int { return (n<<1 | n>>(api.Tags-1)) & api.Top }

// No tag is other than the others.
func TestTurned(t *testing.T) {
	texts(t, 150, func(s string, f api.File) {
		g := relabel(f, turned)
		for i, n := range Floors(f) {
			if got := Floors(g)[i]; got != turned(n) {
				t.Fatalf("with other tags item %d of %q has floor %d, not %d", i, s, got, turned(n))
			}
			if got, want := Diags(g, i), Diags(f, i); !slices.Equal(got, want) {
				t.Fatalf("with other tags of item %d of %q is wrong %v, not %v", i, s, got, want)
			}
			for at := range f.Items[i].Size {
				n, ok := Label(f, i, at)
				if m, other := Label(g, i, at); m != turned(n) || other != ok {
					t.Fatalf("with other tags at byte %d of item %d of %q stands %d, %v", at, i, s, m, other)
				}
			}
		}
	})
}

// Without labels there are no secrets; where all is as secret as can be, just what nobody made hears too much.
func TestAllAlike(t *testing.T) {
	texts(t, 300, func(s string, f api.File) {
		if g := relabel(f, func(int) int { return 0 }); !Sound(g) {
			t.Fatalf("without labels %q isn't sound", s)
		}
	})
	f := relabel(read(t, "chan c: {};\nfn f(x: {}): {} sends c { let y: {} = f(x); if y { y = x; send c y; return f(f(y)); none = 1; } while x { let z = 1; z = x; } }"), func(int) int { return api.Top })
	if got, want := fmt.Sprint(Diags(f, 1)), "[{84 93 9 none}]"; got != want {
		t.Errorf("of the most secret is wrong %s, not %s", got, want)
	}
}

// Numbers that are no labels are answered all the same, and so is what an open let has in the place of one.
func TestNoLabels(t *testing.T) {
	texts(t, 100, func(s string, f api.File) {
		for _, n := range []int{-1, 256, math.MaxInt, math.MinInt} {
			everything(relabel(f, func(int) int { return n }))
		}
	})
	f := read(t, "fn f(x: {a}): {} { let y = x; return y; let z = 1; return z; }")
	want := everything(f)
	for _, n := range []int{0, 1, 2, api.Top} {
		f.Items[0].Body[0].Label, f.Items[0].Body[2].Label = n, n
		if got := everything(f); got != want {
			t.Errorf("with %d in open lets is told %s, not %s", n, got, want)
		}
	}
}

// Other sends may be many, said twice, without names, with texts that are no names, and anywhere.
func TestOtherSends(t *testing.T) {
	f := read(t, "chan a: {a};\nchan b: {a,b};\nchan n: {};\nfn f(x: {a}): {} { if x { f(1); } }\nx\nfn f(): {} { }")
	for _, c := range []struct {
		l     []api.Ref
		floor int
		wrong bool
	}{
		{nil, api.Top, false},
		{[]api.Ref{}, api.Top, false},
		{[]api.Ref{{Name: ""}, {Name: "none", At: 3}, {Name: "f"}, {Name: "A"}, {Name: "a "}, {Name: "\x00"}}, api.Top, false},
		{[]api.Ref{{Name: "b", At: -3}, {Name: "b", At: math.MaxInt}}, 3, false},
		{[]api.Ref{{Name: "b"}, {Name: "", At: math.MinInt}, {Name: "a"}}, 1, false},
		{[]api.Ref{{Name: "a"}, {Name: "b"}, {Name: "a"}, {Name: "n"}, {Name: "b"}}, 0, true},
	} {
		f.Items[3].Sends = c.l
		// Sends of what is no function mean nothing.
		f.Items[0].Sends = []api.Ref{{Name: "n"}}
		if got, want := Floors(f), []int{255, 255, 255, c.floor, 255}; !slices.Equal(got, want) {
			t.Errorf("with sends %v floors are %v, not %v", c.l, got, want)
		}
		if got := len(Diags(f, 3)) > 0; got != c.wrong || Sound(f) == c.wrong {
			t.Errorf("with sends %v something is wrong: %v, sound: %v", c.l, got, Sound(f))
		}
	}
}

// What was wrong when it was read, or with names, or with what is sent to, is not told here.
func TestOtherDiags(t *testing.T) {
	f := read(t, "chan c: {};\nfn f(): {} { send c 1; none; none(); return ; ? }")
	if len(f.Items[1].Diags) == 0 || len(Diags(f, 1)) != 0 || !Sound(f) {
		t.Errorf("of what is wrong otherwise is told %v, sound: %v", Diags(f, 1), Sound(f))
	}
}

// Much of everything comes to an end.
func TestGreat(t *testing.T) {
	s := "chan c: {a};\nfn f(x: {b}): {} { if x {" + strings.Repeat("f(1);", 39) + "} x" + strings.Repeat("+f(x)", 700) + "; }"
	f := read(t, s)
	for range 100000 {
		f.Items[1].Sends = append(f.Items[1].Sends, api.Ref{Name: "c"}, api.Ref{Name: "none"})
	}
	if got := len(Diags(f, 1)); got != 39 || Sound(f) {
		t.Errorf("with many sends %d are wrong", got)
	}
	block := strings.Repeat("let x=x;", api.MaxStmts-1)
	s = "fn f(x: {a}): {} {" + strings.Repeat(block+"while x{", api.MaxNest-2) + block
	s = s[:len(s)-8] + "return x;"
	f = read(t, s)
	if n, ok := Label(f, 0, len(s)-2); n != 1 || !ok {
		t.Errorf("at the end of many blocks stands %d, %v", n, ok)
	}
	s = "fn f(x: {a}): {} { return " + strings.Repeat("1+", 1900) + "x; }"
	if got := len(Diags(read(t, s), 0)); got != 1 {
		t.Errorf("of a long expression %d are wrong", got)
	}
}

// Fields that a kind has not mean nothing, kinds that there are not are none, and nor is what has an empty name.
func TestOtherFields(t *testing.T) {
	x := api.Expr{Kind: api.ExVar, Name: "x", From: 1, To: 2}
	call := api.Expr{Kind: api.ExCall, Name: "f", Args: []api.Expr{x}, From: 3, To: 4}
	inner := []api.Stmt{{Kind: api.StBack, E: x, From: 7, To: 8}}
	of := func(kind int, l ...api.Stmt) string {
		f := api.File{Items: []api.Item{{Kind: kind, Name: "f", Params: []api.Param{{Name: "x", Label: 1}, {Label: 1}}, Body: l}}}
		n, ok := Label(f, 0, 1)
		return fmt.Sprint(Diags(f, 0), n, ok)
	}
	for _, kind := range []int{api.ItChan, api.ItBad, 0, -1, 4, math.MaxInt, math.MinInt} {
		if got := of(kind, inner...); got != "[] 0 false" {
			t.Errorf("of an item of kind %d is told %s", kind, got)
		}
	}
	for _, kind := range []int{api.StLet, api.StSet, api.StSend, api.StBack, api.StDo} {
		if got := of(api.ItFn, api.Stmt{Kind: kind, Label: 1, Name: "x", Then: inner, Else: inner}); got != "[] 0 false" {
			t.Errorf("of blocks of a statement of kind %d is told %s", kind, got)
		}
	}
	for _, kind := range []int{api.StBad, 0, -1, 9, math.MaxInt, math.MinInt} {
		if got := of(api.ItFn, api.Stmt{Kind: kind, E: x, Then: inner, Else: inner}); got != "[] 0 false" {
			t.Errorf("of a statement of kind %d is told %s", kind, got)
		}
	}
	if got := of(api.ItFn, api.Stmt{Kind: api.StWhile, Else: inner}); got != "[] 0 false" {
		t.Errorf("of what a while has not is told %s", got)
	}
	for _, kind := range []int{api.ExInt, api.ExBad, 0, -1, 6, math.MaxInt, math.MinInt} {
		if got := of(api.ItFn, api.Stmt{Kind: api.StBack, E: api.Expr{Kind: kind, Name: "x", Args: []api.Expr{x, call}}}); got != "[] 0 false" {
			t.Errorf("of an expression of kind %d is told %s", kind, got)
		}
	}
	if got := of(api.ItFn, api.Stmt{Kind: api.StBack, E: api.Expr{Kind: api.ExVar}}, api.Stmt{Kind: api.StSet, E: x, From: 5, To: 6}); got != "[{5 6 9 }] 1 true" {
		t.Errorf("of empty names is told %s", got)
	}
}
