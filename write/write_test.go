package write

import (
	"math"
	"reflect"
	"strconv"
	"strings"
	"testing"

	"undertone/api"
	"undertone/label"
	"undertone/parse"
)

// read has the file of s, with which nothing may be wrong.
func read(t *testing.T, s string) api.File {
	t.Helper()
	f, err := parse.File(s)
	if err != api.OK || !goodFile(f) {
		t.Fatalf("of %q is read %v, %d", s, f, err)
	}
	return f
}

type row struct{ s, want string }

func writes(t *testing.T, rows []row) {
	t.Helper()
	for _, c := range rows {
		if got := File(read(t, c.s)); got != c.want {
			t.Errorf("of %q is written\n%q, not\n%q", c.s, got, c.want)
		}
	}
}

func TestItems(t *testing.T) {
	writes(t, []row{
		{"", ""},
		{" \n# nothing\n", ""},
		{"chan c:{};", "chan c: {};\n"},
		{"chan  c : { h , a , c , } ; # x", "chan c: {a,c,h};\n"},
		{"chan c: {a,b,c,d,e,f,g,h};", "chan c: {a,b,c,d,e,f,g,h};\n"},
		{"fn f():{}{}", "fn f(): {} {\n}\n"},
		{"fn f(x:{b,a}):{c}{}", "fn f(x: {a,b}): {c} {\n}\n"},
		{"fn f(x:{},y:{a},):{}{}", "fn f(x: {}, y: {a}): {} {\n}\n"},
		{"fn f(a:{a},b:{b},c:{c},d:{d},e:{e}):{f}sends g{}", "fn f(a: {a}, b: {b}, c: {c}, d: {d}, e: {e}): {f} sends g {\n}\n"},
		{"fn f():{}sends c,\n d , c{}", "fn f(): {} sends c, d, c {\n}\n"},
		{"chan c:{};\nchan d:{};", "chan c: {};\nchan d: {};\n"},
		{"fn f():{}{}\n\n\nchan c:{};\n# x\nfn g():{}{}\n", "fn f(): {} {\n}\nchan c: {};\nfn g(): {} {\n}\n"},
	})
}

// body has what is written of a body's statements, without what is around them.
func body(t *testing.T, s string) string {
	t.Helper()
	got := File(read(t, "fn f(): {} {"+s+"}"))
	got, ok := strings.CutPrefix(got, "fn f(): {} {\n")
	got, end := strings.CutSuffix(got, "}\n")
	if !ok || !end {
		t.Fatalf("around %q is written %q", s, got)
	}
	return got
}

func bodies(t *testing.T, rows []row) {
	t.Helper()
	for _, c := range rows {
		if got := body(t, c.s); got != c.want {
			t.Errorf("of %q is written\n%q, not\n%q", c.s, got, c.want)
		}
	}
}

func TestStatements(t *testing.T) {
	bodies(t, []row{
		{"", ""},
		{"let x=1;", "  let x = 1;\n"},
		{"let x:{}=1;", "  let x: {} = 1;\n"},
		{"let x : { b,a, } = y ;", "  let x: {a,b} = y;\n"},
		{"x=1;", "  x = 1;\n"},
		{"x=y=1;", "  x = y = 1;\n"},
		{"x=(y=1)=2;", "  x = y = 1 = 2;\n"},
		{"send c 1;", "  send c 1;\n"},
		{"send c(x);", "  send c x;\n"},
		{"send c(x+1)*2;", "  send c (x + 1) * 2;\n"},
		{"send c f(x);", "  send c f(x);\n"},
		{"return(1);", "  return 1;\n"},
		{"return(1+2)*3;", "  return (1 + 2) * 3;\n"},
		{"f();", "  f();\n"},
		{"x;", "  x;\n"},
		{"f()=1;", "  f() = 1;\n"},
		{"x<1=2;", "  x < 1 = 2;\n"},
		{"x;x;let x=x;x=x;", "  x;\n  x;\n  let x = x;\n  x = x;\n"},
	})
}

func TestBlocks(t *testing.T) {
	bodies(t, []row{
		{"if 1{}", "  if 1 {\n  }\n"},
		{"if 1{}else{}", "  if 1 {\n  }\n"},
		{"if 1{x;}else{ # x\n}", "  if 1 {\n    x;\n  }\n"},
		{"if 1{}else{x;}", "  if 1 {\n  } else {\n    x;\n  }\n"},
		{"if(x){y;y;}else{z;}z;", "  if x {\n    y;\n    y;\n  } else {\n    z;\n  }\n  z;\n"},
		{"while x<1{}", "  while x < 1 {\n  }\n"},
		{"while(x){x=x-1;send c x;}x;", "  while x {\n    x = x - 1;\n    send c x;\n  }\n  x;\n"},
		{"if(x=1)*2{ return(x-(1-x)); }", "  if (x = 1) * 2 {\n    return x - (1 - x);\n  }\n"},
		{"if 1{if 2{x;}else{}y;}", "  if 1 {\n    if 2 {\n      x;\n    }\n    y;\n  }\n"},
		{"if 1{}else{if 2{}else{if 3{x;}}}", "  if 1 {\n  } else {\n    if 2 {\n    } else {\n      if 3 {\n        x;\n      }\n    }\n  }\n"},
		{"while 1{while 2{let x:{a}=1;}}while 3{}", "  while 1 {\n    while 2 {\n      let x: {a} = 1;\n    }\n  }\n  while 3 {\n  }\n"},
	})
	deep, want := "x;", ""
	for k := range api.MaxNest - 2 {
		deep = "while x{" + deep + "}"
		want += strings.Repeat("  ", k+1) + "while x {\n"
	}
	want += strings.Repeat("  ", api.MaxNest-1) + "x;\n"
	for k := api.MaxNest - 3; k >= 0; k-- {
		want += strings.Repeat("  ", k+1) + "}\n"
	}
	bodies(t, []row{{deep, want}})
}

func TestExpressions(t *testing.T) {
	for _, c := range []row{
		{"1", "1"},
		{"007", "7"},
		{"000", "0"},
		{"1000000000", "1000000000"},
		{"((x))", "x"},
		{"1+2", "1 + 2"},
		{"1+2+3", "1 + 2 + 3"},
		{"(1+2)+3", "1 + 2 + 3"},
		{"1+(2+3)", "1 + (2 + 3)"},
		{"1-(2-3)-4", "1 - (2 - 3) - 4"},
		{"1-(2+3)", "1 - (2 + 3)"},
		{"1+(2-3)", "1 + (2 - 3)"},
		{"1*2*3", "1 * 2 * 3"},
		{"1*(2*3)", "1 * (2 * 3)"},
		{"(1*2)*(3*4)", "1 * 2 * (3 * 4)"},
		{"1+2*3", "1 + 2 * 3"},
		{"1+(2*3)", "1 + 2 * 3"},
		{"(1+2)*3", "(1 + 2) * 3"},
		{"1*(2+3)", "1 * (2 + 3)"},
		{"(1*2)+3", "1 * 2 + 3"},
		{"1=2=3", "1 = 2 = 3"},
		{"(1=2)=3", "1 = 2 = 3"},
		{"1=(2=3)", "1 = (2 = 3)"},
		{"1<(2=3)", "1 < (2 = 3)"},
		{"(1<2)=3", "1 < 2 = 3"},
		{"1<2+3", "1 < 2 + 3"},
		{"(1<2)+3", "(1 < 2) + 3"},
		{"1+(2<3)", "1 + (2 < 3)"},
		{"(1*2)=(3+4)", "1 * 2 = 3 + 4"},
		{"((1<2)+3)*((4))", "((1 < 2) + 3) * 4"},
		{"1*((2+(3=4)))", "1 * (2 + (3 = 4))"},
		{"(1*(2*3))", "1 * (2 * 3)"},
		{"f()", "f()"},
		{"f ( x , )", "f(x)"},
		{"f((x),(1+2),3)", "f(x, 1 + 2, 3)"},
		{"f((1=2),g((x)))", "f(1 = 2, g(x))"},
		{"(f(1))+(g(2))*(h())", "f(1) + g(2) * h()"},
		{"f(1,2,3,4,5)*(1-x)", "f(1, 2, 3, 4, 5) * (1 - x)"},
	} {
		if got, want := body(t, "return "+c.s+";"), "  return "+c.want+";\n"; got != want {
			t.Errorf("of %q is written %q, not %q", c.s, got, want)
		}
	}
}

func TestLabels(t *testing.T) {
	for n := range api.Top + 1 {
		l := label.Print(n)
		s := "chan c: " + l + ";\nfn f(x: " + l + "): " + l + " {\n  let y: " + l + " = 1;\n}\n"
		writes(t, []row{{s, s}, {strings.NewReplacer(": ", ":", ",", " ,\n", "} =", "}=").Replace(s), s}})
	}
}

// sums has all expressions with n signs.
func sums(n int) []api.Expr {
	if n == 0 {
		return []api.Expr{{Kind: api.ExVar, Name: "x"}}
	}
	var out []api.Expr
	for k := range n {
		for _, left := range sums(k) {
			for _, right := range sums(n - 1 - k) {
				for _, sign := range []string{"=", "<", "+", "-", "*"} {
					out = append(out, api.Expr{Kind: api.ExOp, Name: sign, Args: []api.Expr{left, right}})
				}
			}
		}
	}
	return out
}

// Each expression is read as itself; and without any of its parentheses it isn't.
func TestAllExpressions(t *testing.T) {
	for n := range 5 {
		for _, e := range sums(n) {
			f := api.File{Items: []api.Item{{Kind: api.ItFn, Name: "f", Body: []api.Stmt{{Kind: api.StBack, E: e}}}}}
			s := File(f)
			if got := read(t, s); !same(noPlaces(got), f) {
				t.Fatalf("%v is written %q", e, s)
			}
			ahead := strings.Index(s, "return")
			for i := ahead; i < len(s); i++ {
				if s[i] != '(' {
					continue
				}
				end := i + closes(strings.Split(s[i:], ""), 0)
				if got := read(t, s[:i]+s[i+1:end]+s[end+1:]); same(noPlaces(got), f) {
					t.Fatalf("in %q those at %d are not needed", s, i)
				}
			}
		}
	}
}

func TestPlain(t *testing.T) {
	const s = "# x\nchan c: {a};\nfn f(x: {b}, y: {}): {c} sends c { let z = x; if z { z = 1; } else { send c f(1, y) - 2; } while 1 { return z; } }\n"
	call := api.Expr{Kind: api.ExCall, Name: "f", Args: []api.Expr{{Kind: api.ExInt, N: 1}, {Kind: api.ExVar, Name: "y"}}}
	minus := api.Expr{Kind: api.ExOp, Name: "-", Args: []api.Expr{call, {Kind: api.ExInt, N: 2}}}
	z := api.Expr{Kind: api.ExVar, Name: "z"}
	want := api.File{Items: []api.Item{
		{Kind: api.ItChan, Name: "c", Label: 1},
		{Kind: api.ItFn, Name: "f", Label: 4, Params: []api.Param{{Name: "x", Label: 2}, {Name: "y"}}, Sends: []api.Ref{{Name: "c"}}, Body: []api.Stmt{
			{Kind: api.StLet, Name: "z", Open: true, E: api.Expr{Kind: api.ExVar, Name: "x"}},
			{Kind: api.StIf, E: z, Then: []api.Stmt{{Kind: api.StSet, Name: "z", E: api.Expr{Kind: api.ExInt, N: 1}}}, Else: []api.Stmt{{Kind: api.StSend, Name: "c", E: minus}}},
			{Kind: api.StWhile, E: api.Expr{Kind: api.ExInt, N: 1}, Then: []api.Stmt{{Kind: api.StBack, E: z}}},
		}},
	}}
	if got := Plain(read(t, s)); !same(got, want) {
		t.Errorf("plain is\n%v, not\n%v", got, want)
	}
	for _, none := range []api.File{{}, {Items: []api.Item{}}} {
		if got := Plain(none); len(got.Items) != 0 {
			t.Errorf("plain of none is %v", got)
		}
		if got := File(none); got != "" {
			t.Errorf("of none is written %q", got)
		}
	}
}

// Without Diags all else that was read stays, and what is missing stays missing.
func TestPlainOfBroken(t *testing.T) {
	for _, s := range []string{"x", "fn", "fn f(", "chan c: {a,a};", "fn f(): {} { return 1 + ; }", "fn f(): {} { ? let x = ; } }", "fn f(x: {}, fn: {}): {} sends c, { if { } else { ; } }", "fn f(): {} { f(1, }\nx\nchan"} {
		f, err := parse.File(s)
		if err != api.OK || goodFile(f) {
			t.Fatalf("of %q is read %v, %d", s, f, err)
		}
		got := Plain(f)
		if want := noPlaces(f); !same(got, want) || !goodFile(got) {
			t.Errorf("plain of %q is\n%v, not\n%v", s, got, want)
		}
	}
	// Whatever kind it is of.
	e := api.Expr{Kind: api.ExBad, Name: "e", N: 7, From: 1, To: 2, Args: []api.Expr{{Kind: 99, From: 3, To: math.MinInt}}}
	st := api.Stmt{Kind: -1, Name: "s", At: 1, Label: 2, Open: true, E: e, From: 3, To: 4}
	st.Then, st.Else = []api.Stmt{st}, []api.Stmt{st, st}
	for kind := -1; kind < 5; kind++ {
		f := api.File{Items: []api.Item{{Kind: kind, Name: "i", Label: 3, Params: []api.Param{{Name: "p", Label: 9, At: 8}}, Sends: []api.Ref{{Name: "r", At: 7}}, Body: []api.Stmt{st}, At: 5, Size: -6, Mark: 7, Diags: []api.Diag{{From: 1}}}}}
		if got, want := Plain(f), noPlaces(f); !reflect.DeepEqual(got, want) {
			t.Errorf("plain of an item of kind %d is\n%v, not\n%v", kind, got, want)
		}
	}
}

// one has what is written of a function that has but that statement.
func one(st api.Stmt) string {
	return File(api.File{Items: []api.Item{{Kind: api.ItFn, Name: "f", Body: []api.Stmt{st}}}})
}

// Fields that a kind has not mean nothing.
func TestOtherFields(t *testing.T) {
	e := api.Expr{Kind: api.ExVar, Name: "x", N: 7, Args: []api.Expr{{Kind: api.ExInt}}}
	block := []api.Stmt{{Kind: api.StDo, E: e}}
	for kind, want := range map[int]string{
		api.StLet:   "let n: {a} = x;",
		api.StSet:   "n = x;",
		api.StSend:  "send n x;",
		api.StBack:  "return x;",
		api.StDo:    "x;",
		api.StIf:    "if x {\n    x;\n  } else {\n    x;\n  }",
		api.StWhile: "while x {\n    x;\n  }",
	} {
		want = "fn f(): {} {\n  " + want + "\n}\n"
		st := api.Stmt{Kind: kind, Name: "n", Label: 1, E: e, Then: block, Else: block}
		if got := one(st); got != want {
			t.Errorf("of kind %d is written %q, not %q", kind, got, want)
		}
		st.Open = true
		want = strings.Replace(want, "n: {a}", "n", 1)
		if got := one(st); got != want {
			t.Errorf("of open kind %d is written %q, not %q", kind, got, want)
		}
	}
	number := api.Expr{Kind: api.ExInt, Name: "x", N: 7, Args: []api.Expr{e}}
	if got, want := one(api.Stmt{Kind: api.StBack, E: number}), "fn f(): {} {\n  return 7;\n}\n"; got != want {
		t.Errorf("of a number is written %q, not %q", got, want)
	}
	it := api.Item{Kind: api.ItChan, Name: "c", Label: 2, Params: []api.Param{{Name: "p"}}, Sends: []api.Ref{{Name: "s"}}, Body: block}
	if got, want := File(api.File{Items: []api.Item{it}}), "chan c: {b};\n"; got != want {
		t.Errorf("of a channel is written %q, not %q", got, want)
	}
}

// Kinds that there are not are none, and what is missing is, whatever it is a part of; and no call panics.
func TestMissing(t *testing.T) {
	x := api.Expr{Kind: api.ExVar, Name: "x"}
	for _, kind := range []int{api.StBad, 0, -1, 9, math.MaxInt, math.MinInt} {
		if got, want := one(api.Stmt{Kind: kind, Name: "n", E: x, Then: []api.Stmt{{Kind: api.StDo}}}), "fn f(): {} {\n}\n"; got != want {
			t.Errorf("of a statement of kind %d is written %q", kind, got)
		}
	}
	for _, kind := range []int{api.ExBad, 0, -1, 6, math.MaxInt, math.MinInt} {
		if got, want := one(api.Stmt{Kind: api.StBack, E: api.Expr{Kind: kind, Name: "n", N: 5, Args: []api.Expr{x}}}), "fn f(): {} {\n  return ;\n}\n"; got != want {
			t.Errorf("of an expression of kind %d is written %q", kind, got)
		}
	}
	for _, kind := range []int{api.ItBad, 0, -1, 4, math.MaxInt, math.MinInt} {
		if got := File(api.File{Items: []api.Item{{Kind: kind, Name: "n"}, {Kind: api.ItChan, Name: "c"}}}); got != "chan c: {};\n" {
			t.Errorf("of an item of kind %d is written %q", kind, got)
		}
	}
	for _, args := range [][]api.Expr{nil, {x}, {x, x, x}, {{}, {}}, {{Kind: api.ExOp}, {Kind: api.ExCall}}} {
		for _, name := range []string{"", "+", "/", "("} {
			for _, kind := range []int{api.ExOp, api.ExCall, api.ExInt, api.ExVar, api.ExBad} {
				for st := range 10 {
					f := api.File{Items: []api.Item{{Kind: api.ItFn, Body: []api.Stmt{{Kind: st, E: api.Expr{Kind: kind, Name: name, Args: args}}}}}}
					if got := File(f); !strings.HasPrefix(got, "fn (): {} {\n") {
						t.Errorf("of %v is written %q", f, got)
					}
					if got := Plain(f); !same(got, f) {
						t.Errorf("plain of %v is %v", f, got)
					}
				}
			}
		}
	}
}

// With Diags something is written as well, and it ends.
func TestBroken(t *testing.T) {
	all(t, 3000, func(s string, f api.File) {
		got := File(f)
		if got != "" && !strings.HasSuffix(got, "\n") {
			t.Fatalf("of %q is written %q", s, got)
		}
		for i := range f.Items {
			f.Items[i].Diags = append(f.Items[i].Diags, api.Diag{Name: "x"})
		}
		if again := File(f); again != got {
			t.Fatalf("with other diags of %q is written %q, not %q", s, again, got)
		}
	})
}

func TestGreat(t *testing.T) {
	var f api.File
	for k := range 100000 {
		f.Items = append(f.Items, api.Item{Kind: api.ItChan, Name: "c" + strconv.Itoa(k), Label: k % 256, Mark: k})
	}
	got := File(f)
	if rows := strings.Split(got, "\n"); len(rows) != 100001 || rows[7] != "chan c7: {a,b,c};" {
		t.Errorf("of many items are written %d rows", len(rows))
	}
	if p := Plain(f); len(p.Items) != 100000 || p.Items[99999].Mark != 0 {
		t.Errorf("plain of many items has %d", len(p.Items))
	}
	left, right := api.Expr{Kind: api.ExInt, N: 1, From: 9}, api.Expr{Kind: api.ExInt, N: 1, From: 9}
	const deep = 50000
	for range deep {
		left = api.Expr{Kind: api.ExOp, Name: "-", Args: []api.Expr{left, {Kind: api.ExInt, N: 1}}}
		right = api.Expr{Kind: api.ExOp, Name: "-", Args: []api.Expr{{Kind: api.ExInt, N: 1}, right}}
	}
	want := "fn f(): {} {\n  return 1" + strings.Repeat(" - 1", deep) + ";\n}\n"
	if got := one(api.Stmt{Kind: api.StBack, E: left}); got != want {
		t.Errorf("of many on the left are written %d bytes", len(got))
	}
	want = "fn f(): {} {\n  return 1 - " + strings.Repeat("(1 - ", deep-1) + "1" + strings.Repeat(")", deep-1) + ";\n}\n"
	if got := one(api.Stmt{Kind: api.StBack, E: right}); got != want {
		t.Errorf("of many on the right are written %d bytes", len(got))
	}
	nest := api.Stmt{Kind: api.StWhile, At: 5}
	for range 1000 {
		nest = api.Stmt{Kind: api.StWhile, E: right.Args[0], Then: []api.Stmt{nest}, To: 4}
	}
	rows := strings.Split(one(nest), "\n")
	if len(rows) != 2005 || rows[1000] != strings.Repeat("  ", 1000)+"while 1 {" || rows[2000] != strings.Repeat("  ", 3)+"}" {
		t.Errorf("of many blocks are written %d rows", len(rows))
	}
	p := Plain(api.File{Items: []api.Item{{Kind: api.ItFn, Body: []api.Stmt{nest, {Kind: api.StDo, E: left}}}}})
	inner, first := p.Items[0].Body[0], p.Items[0].Body[1].E
	for len(inner.Then) > 0 {
		inner = inner.Then[0]
	}
	for len(first.Args) > 0 {
		first = first.Args[0]
	}
	if inner.At != 0 || first.From != 0 {
		t.Errorf("plain of many blocks has places: %d, %d", inner.At, first.From)
	}
}
