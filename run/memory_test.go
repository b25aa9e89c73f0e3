package run

import (
	"fmt"
	"math"
	"math/rand"
	"reflect"
	"slices"
	"strings"
	"testing"

	"undertone/api"
	"undertone/parse"
)

// own copies a file with all that it has.
func own(f api.File) api.File {
	var out api.File
	for _, it := range f.Items {
		out.Items = append(out.Items, parse.Own(it))
	}
	return out
}

// texts hands on many texts, of which every other one is broken.
func texts(t *testing.T, n int, use func(s string, f api.File)) {
	t.Helper()
	for seed := range n {
		m := &maker{Rand: rand.New(rand.NewSource(int64(seed)))}
		s := m.text()
		if seed%2 == 1 {
			s = m.broken()
		}
		if len(s) <= api.MaxText {
			use(s, read(t, s))
		}
	}
}

// everything has all that is told of a file.
func everything(f api.File) string {
	l := []any{All(f)}
	for i := -1; i <= len(f.Items); i++ {
		l = append(l, Diags(f, i))
	}
	for _, it := range f.Items {
		r := Run(f, it.Name, []int{3, 4, 5}[:min(3, len(it.Params))])
		l = append(l, r.N, r.Err, r.Steps, len(r.Events), Seen(f, r.Events, 0), Seen(f, r.Events, 3))
	}
	return fmt.Sprint(l...)
}

func TestOnlyRead(t *testing.T) {
	texts(t, 300, func(s string, f api.File) {
		was, first := own(f), everything(f)
		if !reflect.DeepEqual(f, was) {
			t.Fatalf("who asks of %q changes it", s)
		}
		if again := everything(f); again != first {
			t.Fatalf("of %q is told\n%s, and then\n%s", s, first, again)
		}
	})
}

// wide copies a list, with room behind it in which something stands.
func wide[T any](l []T, more T) []T { return append(append([]T{}, l...), more)[:len(l)] }

func behind[T any](l []T) T { return l[:len(l)+1][len(l)] }

func wideExprs(l []api.Expr) []api.Expr {
	out := wide(l, api.Expr{Kind: api.ExCall, Name: "behind"})
	for i := range out {
		out[i].Args = wideExprs(out[i].Args)
	}
	return out
}

func wideStmts(l []api.Stmt) []api.Stmt {
	out := wide(l, api.Stmt{Kind: api.StSet, Name: "behind", E: api.Expr{Kind: api.ExVar, Name: "behind"}})
	for i := range out {
		st := &out[i]
		st.Then, st.Else, st.E.Args = wideStmts(st.Then), wideStmts(st.Else), wideExprs(st.E.Args)
	}
	return out
}

// Lists without entries are nil or not, and what stands behind lists is none of them.
func TestRoomBehind(t *testing.T) {
	texts(t, 300, func(s string, f api.File) {
		g := api.File{Items: wide(f.Items, api.Item{Kind: api.ItBad, Diags: []api.Diag{{Err: api.ErrForm}}})}
		for i := range g.Items {
			it := &g.Items[i]
			it.Params = wide(it.Params, api.Param{Name: "behind", Label: 3})
			it.Sends = wide(it.Sends, api.Ref{Name: "behind"})
			it.Diags = wide(it.Diags, api.Diag{Err: api.ErrForm, Name: "behind"})
			it.Body = wideStmts(it.Body)
		}
		if got, want := everything(g), everything(f); got != want {
			t.Fatalf("with room behind lists of %q is told\n%s, not\n%s", s, got, want)
		}
		for _, it := range g.Items {
			if behind(it.Params).Name != "behind" || behind(it.Sends).Name != "behind" || behind(it.Body).Name != "behind" || behind(it.Diags).Name != "behind" {
				t.Fatalf("room behind lists of %q is changed", s)
			}
		}
	})
	f := read(t, "chan c: {};\nfn f(x: {}): {} sends c { x = x + 1; send c x; }")
	args := wide([]int{5}, 7)
	r := Run(f, "f", args)
	if got := told(r); got != "0 in 6: c6" || args[0] != 5 || behind(args) != 7 {
		t.Errorf("with room behind arguments comes %s, and they are %v, and %d", got, args, behind(args))
	}
	events := wide([]api.Event{{Chan: "d", N: 1}, {Chan: "c", N: 2}}, api.Event{Chan: "c", N: 3})
	if got := Seen(f, events, 0); fmt.Sprint(got, events, behind(events)) != "[{c 2}] [{d 1} {c 2}] {c 3}" {
		t.Errorf("with room behind events is heard %v, and they are %v, and %v", got, events, behind(events))
	}
}

// wipe changes a list, with the room behind it.
func wipe[T any](l []T) {
	var none T
	for i := range l[:cap(l)] {
		l[:cap(l)][i] = none
	}
}

// Lists that are answered are the caller's, with the room behind them.
func TestAnswersAreNew(t *testing.T) {
	for _, s := range []string{
		"chan c: {};\nfn f(x: {a}): {} { send c x; none; return x; ? }\nx",
		"x",
		"fn f(): {} { none; }",
		"chan c: {};\nfn f(): {} sends c { send c 1; send c 2; send c 3; }",
	} {
		f := read(t, s)
		was, first := own(f), everything(f)
		events := []api.Event{{Chan: "c", N: 1}, {Chan: "c", N: 2}, {Chan: "c", N: 3}}
		wipe(All(f))
		for i := range f.Items {
			wipe(Diags(f, i))
		}
		wipe(Run(f, "f", nil).Events)
		wipe(Seen(f, events, 255))
		if got := everything(f); got != first || !reflect.DeepEqual(f, was) || fmt.Sprint(events) != "[{c 1} {c 2} {c 3}]" {
			t.Errorf("who changes answers changes others: %s, not %s", got, first)
		}
		all, one, ran, seen := All(f), Diags(f, 0), Run(f, "f", nil), Seen(f, events, 255)
		want := fmt.Sprint(all, one, ran, seen)
		for i := range f.Items {
			wipe(f.Items[i].Diags)
		}
		wipe(f.Items)
		wipe(events)
		if got := fmt.Sprint(all, one, ran, seen); got != want {
			t.Errorf("who changes what was handed in changes answers: %s, not %s", got, want)
		}
	}
}

// relabel has a copy of f with other labels.
func relabel(f api.File, other func(n int) int) api.File {
	g := own(f)
	for i := range g.Items {
		it := &g.Items[i]
		it.Label = other(it.Label)
		for k := range it.Params {
			it.Params[k].Label = other(it.Params[k].Label)
		}
		relabelStmts(it.Body, other)
	}
	return g
}

func relabelStmts(l []api.Stmt, other func(n int) int) {
	for i := range l {
		l[i].Label = other(l[i].Label)
		relabelStmts(l[i].Then, other)
		relabelStmts(l[i].Else, other)
	}
}

// Labels have it run or not, and change nothing of how it does.
func TestOtherLabels(t *testing.T) {
	turned := func(n int) int { return (n<<1 | n>>(api.Tags-1)) & api.Top }
	rights(t, 500, func(m *maker, s string, f api.File) {
		for _, it := range f.Items {
			args := m.args(len(it.Params))
			want := Run(f, it.Name, args)
			for k, other := range []func(n int) int{func(int) int { return 0 }, func(int) int { return api.Top }, turned} {
				if got := Run(relabel(f, other), it.Name, args); !same(got, want) {
					t.Fatalf("%s%v of %q comes to %v, and with other labels (%d) to %v", it.Name, args, s, want, k, got)
				}
			}
			for _, n := range []int{-1, 256, math.MaxInt, math.MinInt} {
				Run(relabel(f, func(int) int { return n }), it.Name, args)
			}
		}
	})
	f := read(t, "fn f(x: {}): {} { return x; }")
	for _, c := range []struct {
		param, back int
		want        string
	}{{0, 0, "7 in 2:"}, {0, 1, "7 in 2:"}, {1, 0, "bad"}, {1, 1, "7 in 2:"}, {3, 1, "bad"}, {1, 255, "7 in 2:"}} {
		f.Items[0].Params[0].Label, f.Items[0].Label = c.param, c.back
		if got := told(Run(f, "f", []int{7})); got != c.want {
			t.Errorf("of %v comes %s", c, got)
		}
	}
}

// Sends have it run or not, and change nothing of how it does.
func TestOtherSends(t *testing.T) {
	f := read(t, "chan c: {};\nchan d: {};\nfn f(): {} { send c 5; }")
	for _, c := range []struct {
		l    []api.Ref
		want string
	}{
		{nil, "bad"},
		{[]api.Ref{}, "bad"},
		{[]api.Ref{{Name: "d"}}, "bad"},
		{[]api.Ref{{Name: "c"}}, "0 in 2: c5"},
		{[]api.Ref{{Name: "d"}, {Name: "c", At: 1 << 40}}, "0 in 2: c5"},
		{[]api.Ref{{Name: "c"}, {Name: "c"}}, "bad"},
		{[]api.Ref{{Name: "c"}, {Name: "none"}}, "bad"},
		{[]api.Ref{{Name: "c"}, {Name: "f"}}, "bad"},
	} {
		f.Items[2].Sends = c.l
		if got := told(Run(f, "f", nil)); got != c.want {
			t.Errorf("with sends %v comes %s, not %s", c.l, got, c.want)
		}
		if (len(All(f)) > 0) != (c.want == "bad") {
			t.Errorf("with sends %v is wrong %v", c.l, All(f))
		}
	}
}

// Items may stand in any order.
func TestOtherOrder(t *testing.T) {
	rights(t, 300, func(m *maker, s string, f api.File) {
		turned := ""
		for _, it := range slices.Backward(f.Items) {
			turned += s[it.At:it.At+it.Size] + "\n"
		}
		if len(turned) > api.MaxText {
			return
		}
		g := read(t, turned)
		for _, it := range f.Items {
			args := m.args(len(it.Params))
			if got, want := Run(g, it.Name, args), Run(f, it.Name, args); !same(got, want) {
				t.Fatalf("%s%v of %q comes to %v, and turned to %v", it.Name, args, s, want, got)
			}
		}
	})
}

// Much of everything comes to an end.
func TestGreat(t *testing.T) {
	blocks := strings.Repeat("while 1{", api.MaxNest-1) + strings.Repeat("}", api.MaxNest-1)
	calls := strings.Repeat("f(", api.MaxNest-2) + "x" + strings.Repeat(")", api.MaxNest-2)
	var many string
	for i := range api.MaxItems - 1 {
		many += fmt.Sprintf("\nfn g%d(): {} { return g%d() + g%d(); }", i, (i+1)%29, (i*7+3)%29)
	}
	runs(t, []row{
		{"fn f(x: {}): {} { " + blocks + " }", l(1), "fuel"},
		{"fn f(x: {}): {} { return " + calls + "; }", l(1), "deep"},
		{"fn f(x: {}): {} { if x { return 1 + " + strings.Repeat("f(", api.MaxNest-3) + "x - x" + strings.Repeat(")", api.MaxNest-3) + "; } }", l(1), "1 in 35:"},
		{"fn f(): {} { return g0(); }" + many, nil, "deep"},
		{"fn f(x: {}): {} { " + strings.Repeat("x = x + 1;", api.MaxStmts) + " return x; }", l(0), "bad"},
		{"fn f(x: {}): {} { " + strings.Repeat("x = x + 1;", api.MaxStmts-1) + " return x; }", l(0), "39 in 158:"},
	})
	// As many are sent as steps allow.
	f := read(t, "chan c: {};\nfn f(): {} sends c { while 1 = 1 { "+strings.Repeat("send c 1;", 30)+" } }\nfn g(x: {}): {} sends c { while x { "+strings.Repeat("send c x;", 36)+" x = x - 1; } }")
	if got := told(Run(f, "f", nil)); got != "fuel" {
		t.Errorf("without end comes %s", got)
	}
	if r := Run(f, "g", []int{38}); r.Err != api.OK || len(r.Events) != 38*36 || r.Steps != 38*78+2 {
		t.Errorf("%d are sent, in %d steps: %d", len(r.Events), r.Steps, r.Err)
	}
	events := make([]api.Event, 1000000)
	for i := range events {
		events[i] = api.Event{Chan: []string{"c", "d"}[i%2], N: i}
	}
	if got := Seen(f, events, 0); len(got) != 500000 || got[499999].N != 999998 {
		t.Errorf("of many is heard %d", len(got))
	}
}
