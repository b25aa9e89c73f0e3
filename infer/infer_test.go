package infer

import (
	"reflect"
	"strings"
	"testing"

	"undertone/api"
	"undertone/label"
	"undertone/parse"
)

// read has the file of s, which must be small enough to be one.
func read(t *testing.T, s string) api.File {
	t.Helper()
	f, err := parse.File(s)
	if err != api.OK {
		t.Fatalf("File(%q) tells %d", s, err)
	}
	return f
}

// eachLet hands on all lets, each block's behind what it is a block of.
func eachLet(l []api.Stmt, use func(st *api.Stmt)) {
	for k := range l {
		if l[k].Kind == api.StLet {
			use(&l[k])
		}
		eachLet(l[k].Then, use)
		eachLet(l[k].Else, use)
	}
}

// found has all lets of a file, item by item with `/` between: names and labels, and `?` of one that is open.
func found(f api.File) string {
	var items []string
	for _, it := range f.Items {
		var l []string
		eachLet(it.Body, func(st *api.Stmt) {
			s := st.Name + label.Print(st.Label)
			if st.Open {
				s += "?"
			}
			l = append(l, s)
		})
		items = append(items, strings.Join(l, " "))
	}
	return strings.Join(items, " / ")
}

type row struct{ s, want string }

func finds(t *testing.T, ahead string, rows []row) {
	t.Helper()
	for _, c := range rows {
		if got := found(Labels(read(t, ahead+c.s))); got != c.want {
			t.Errorf("of %q is found\n%s, not\n%s", c.s, got, c.want)
		}
	}
}

const three = "fn f(x: {a}, y: {b}, z: {}): {} "

func TestMade(t *testing.T) {
	finds(t, "", []row{
		{three + "{ let p = 1; }", "p{}"},
		{three + "{ let p = x; let q = z; let r = x + y; let s = x * (z - 1); }", "p{a} q{} r{a,b} s{a}"},
		{three + "{ let p = x; let q = p; let r = q + y; let s = r; }", "p{a} q{a} r{a,b} s{a,b}"},
		{three + "{ let p = none; let q = none + x; let r = f; }", "p{} q{a} r{}"},
		// What it is made of is asked ahead of it.
		{three + "{ let x = x; let x = x + y; let z = z; let q = q; }", "x{a} x{a,b} z{} q{}"},
		// What comes of a call has the function's label, and nothing of its arguments.
		{three + "{ let p = g(x); let q = none(x); let r = g(1) + x; let s = f(x, y, g(1)); }\nfn g(p: {a}): {c,d} { }", "p{c,d} q{} r{a,c,d} s{} / "},
		{"fn f(p: {a,b,c,d,e,f,g,h}, q: {h}): {} { let r = p; let s = q; }", "r{a,b,c,d,e,f,g,h} s{h}"},
	})
}

func TestSet(t *testing.T) {
	finds(t, "", []row{
		{three + "{ let p = 1; p = x; }", "p{a}"},
		{three + "{ let p = y; p = 1; p = x; p = z; }", "p{a,b}"},
		{three + "{ let p = 1; p = g(x); p = none(x); p = none; }\nfn g(p: {a}): {c} { }", "p{c} / "},
		// What is set later counts ahead of it, too.
		{three + "{ let p = 1; let q = p; let r = q; p = x; }", "p{a} q{a} r{a}"},
		{three + "{ let p = 1; let q = 2; let r = 3; p = q; q = r; r = x; }", "p{a} q{a} r{a}"},
		{three + "{ let p = 1; let q = p + y; let r = 1; r = q; p = r; q = x; }", "p{a,b} q{a,b} r{a,b}"},
		// Through one another, and through itself.
		{three + "{ let p = 1; let q = 2; p = q; q = p; }", "p{} q{}"},
		{three + "{ let p = 1; let q = 2; p = q; q = p; q = x; }", "p{a} q{a}"},
		{three + "{ let p = 1; p = p; p = p + 1; let q = y; q = q * q; }", "p{} q{b}"},
		{three + "{ let p = x; let q = y; let r = 1; r = p; }", "p{a} q{b} r{a}"},
	})
}

func TestUnder(t *testing.T) {
	finds(t, "", []row{
		{three + "{ if x { let p = 1; } else { let q = 2; let r = y; } let s = 3; }", "p{a} q{a} r{a,b} s{}"},
		{three + "{ while x { let p = 1; while y { let q = 1; } let r = 1; } let s = 1; }", "p{a} q{a,b} r{a} s{}"},
		{three + "{ let p = 1; let q = 1; if x { p = 1; } else { q = 1; } }", "p{a} q{a}"},
		{three + "{ let p = 1; if 1 { while y + 1 { if z { p = z; } } } }", "p{b}"},
		{three + "{ if g(x) { let p = 1; } while 1 + g(x) { let q = 1; } if none(x) { let r = 1; } }\nfn g(p: {a}): {c} { }", "p{c} q{c} r{} / "},
		// What a block is under may itself be found later.
		{three + "{ let p = 1; if p { let q = 1; } p = x; }", "p{a} q{a}"},
		{three + "{ let i = 3; let p = 1; while i { p = 2; i = i - x; } }", "i{a} p{a}"},
		{three + "{ let i = 3; while i { let q = 1; i = i - 1; if q { i = y; } } }", "i{b} q{b}"},
		{three + "{ let p = 1; let q = 1; while p { if q { let r = 1; } q = 0; } p = x; q = y; }", "p{a} q{a,b} r{a,b}"},
		// What is set under a secret is one, though it is set to none.
		{three + "{ let p = 1; if x { p = 1; } let q = p; if q { let r = 1; } }", "p{a} q{a} r{a}"},
		// The expression itself is no let: a while, asked again, puts nothing on what is around it.
		{three + "{ let p = 1; while x { } if y { } p = 2; }", "p{}"},
	})
}

// The last one that was made is meant, for the rest of its block.
func TestScopes(t *testing.T) {
	finds(t, "", []row{
		{three + "{ let p = 1; if 1 { let p = x; p = y; } p = z; }", "p{} p{a,b}"},
		{three + "{ let p = 1; if 1 { p = y; let p = x; } else { p = p; } }", "p{b} p{a}"},
		{three + "{ let p = 1; p = x; let p = 2; p = y; }", "p{a} p{b}"},
		{three + "{ while 1 { let p = 1; if p { let p = x; } p = 3; } let p = 4; if p { p = y; } }", "p{} p{a} p{b}"},
		{three + "{ if 1 { let p = x; } else { p = y; let p = p; } p = x; let q = p; }", "p{a} p{} q{}"},
		{three + "{ let x = 1; x = y; let z = x; }", "x{b} z{b}"},
		{"fn f(x: {a}, x: {b}): {} { let p = x; }", "p{b}"},
		// Locals of one function are none of another.
		{"fn f(x: {a}): {} { let p = 1; p = x; q = x; }\nfn g(y: {b}): {} { let p = 1; let q = 1; p = x; }", "p{a} / p{} q{}"},
		{"chan p: {a};\nfn f(x: {a}): {} sends p { let p = 1; send p x; f(x); let f = 1; f = p; }", " / p{} f{}"},
	})
}

// A let that has a label keeps it, and that is what it has.
func TestLabelled(t *testing.T) {
	finds(t, "", []row{
		{three + "{ let p: {} = x; let q = p; }", "p{} q{}"},
		{three + "{ let p: {a,c} = 1; let q = p; let r: {b} = q; }", "p{a,c} q{a,c} r{b}"},
		{three + "{ let p: {c} = 1; p = x; let q = 1; q = p; p = q; }", "p{c} q{c}"},
		{three + "{ let p: {} = 1; let q = 1; if p { q = 2; } if q { p = 2; } q = x; }", "p{} q{a}"},
		{three + "{ let p: {} = 1; if x { let q: {} = p; let r = q; } }", "p{} q{} r{a}"},
		// A let without one may stand between two with one, and the other way round.
		{three + "{ let p = 1; let q: {c} = 1; let r = 1; p = x; q = x; r = y; }", "p{a} q{c} r{b}"},
		{three + "{ let p: {d} = 1; let q = 1; let r: {e} = 1; let s = 1; if 1 { let p = 1; p = x; } p = y; q = p; r = y; s = r; }", "p{d} q{d} r{e} s{e} p{a}"},
		{three + "{ let p = 1; if 1 { let p: {c} = 1; p = x; } p = y; }", "p{b} p{c}"},
	})
}

// Nothing is asked but what lets are told: not what is sent, or comes of a function, or is handed to it.
func TestNothingElse(t *testing.T) {
	const s = "chan n: {};\nchan a: {a};\nfn g(p: {}): {c} sends n { }\n"
	finds(t, s, []row{
		{three + "sends a { let p = 1; send a p; }", " /  /  / p{}"},
		{three + "sends n { let p = 1; p = x; send n p; return p; g(p); if p { g(1); send n 2; } }", " /  /  / p{a}"},
		{three + "{ let p = 1; g(p); return p; x = p; z = p; send a p; }", " /  /  / p{}"},
		{"fn f(x: {a}): {b} { let p = 1; return p; p = x; }", " /  /  / p{a}"},
		// A parameter has what is written, whatever it is set to.
		{three + "{ z = x; let p = z; x = 1; let q = x; none = y; let r = none; }", " /  /  / p{} q{a} r{}"},
	})
	const wrong = s + three + "sends n { let p: {} = x; z = y; send n x; return y; g(x); none(none); let q: {b} = 1; while x { q = 1; f(1); } }"
	if got, want := Labels(read(t, wrong)), read(t, wrong); !reflect.DeepEqual(got, want) {
		t.Errorf("where no let is open comes %v, not %v", got, want)
	}
}

// Of two of one name the first is called.
func TestTwoOfOneName(t *testing.T) {
	finds(t, "", []row{
		{"fn g(): {a} { let p = g(); }\nfn g(): {b} { let p = g(); }", "p{a} / p{a}"},
		{"chan g: {c};\nfn f(x: {a}): {} { let p = g(x); let q = h(x); }\nx\nfn h(): {b} { }\nfn h(): {d} { }", " / p{} q{b} /  / "},
	})
}

// Of texts that are broken what could be read is found.
func TestBroken(t *testing.T) {
	finds(t, "", []row{
		{"", ""},
		{"x", ""},
		{"chan c: {a}; let p = 1;", ""},
		{"let p = 1;", ""},
		{"fn f(x: {a}): {} { let", "{}"},
		{"fn f(x: {a}): {} { let p", "p{}"},
		{"fn f(x: {a}): {} { let p = x", "p{a}"},
		{"fn f(x: {a}): {} { let p = ; p = x + ; let q = p", "p{a} q{a}"},
		{"fn f(x: {a}): {} { let = x; let y x; let = 1; = x; y = 1; }", "{a} y{a} {}"},
		{"fn f(x: {a}): {} { let let = x; let fn = x; let p: = x; let q: {? = x; }", "{a} {a} p{} q{}"},
		{"fn f(x: {a}): {} { if { let p = 1; } if x { let q = 1; } else let r = 1; while x { let s = 1;", "p{} q{a} r{} s{a}"},
		{"fn f(x: {a}, y): {} { let p = y; p = (x; }", "p{a}"},
		{"fn (x: {a}): {} { let p = x; }\nfn (): {} { let p = x; }", "p{a} / p{}"},
		// Without a name nothing is made, nor set.
		{"fn f(abcdefghijklm: {b}, x: {a}): {} { let p = abcdefghijklm; let abcdefghijklm = 1; abcdefghijklm = x; let q = abcdefghijklm; }", "p{} {} q{}"},
		// What should be a block is read as a label, or none.
		{"fn f(x: {a}) { let p = x; }\nfn g(): {} let p = 1;\nchan c: {a}\nfn h(): {} { let p = g()", " /  /  / p{}"},
	})
}

// Of all else of it f is the same.
func TestAllElse(t *testing.T) {
	const s = "# x\nchan c: {a};\nfn f(x: {a}): {b} sends c, c { let p = x; if p { let q: {c} = f(1, p); } else { send none (p - 1) * 2; } while none { return p; ? } }\n}\nfn fn"
	f := read(t, s)
	if len(f.Items[1].Diags) == 0 || len(f.Items[2].Diags) == 0 {
		t.Fatalf("nothing is wrong with %v", f)
	}
	want := read(t, s)
	let := &want.Items[1].Body[0]
	if !let.Open {
		t.Fatalf("%v is not open", let)
	}
	let.Open, let.Label = false, 1
	if got := Labels(f); !reflect.DeepEqual(got, want) {
		t.Errorf("of %q comes\n%v, not\n%v", s, got, want)
	}
	for _, none := range []api.File{{}, {Items: []api.Item{}}} {
		if got := Labels(none); len(got.Items) != 0 {
			t.Errorf("of none comes %v", got)
		}
	}
}

// Fields that a kind has not mean nothing, kinds that there are not are none.
func TestOtherFields(t *testing.T) {
	x := api.Expr{Kind: api.ExVar, Name: "x"}
	let := api.Stmt{Kind: api.StLet, Name: "p", Open: true, Label: 8, E: x}
	param := []api.Param{{Name: "x", Label: 1}}
	of := func(l ...api.Stmt) string {
		return found(Labels(api.File{Items: []api.Item{{Kind: api.ItFn, Name: "f", Params: param, Body: l}}}))
	}
	for _, kind := range []int{api.StLet, api.StSet, api.StSend, api.StBack, api.StDo, api.StBad, 0, -1, 9} {
		ahead := api.Stmt{Kind: kind, Name: "q", Label: 4, Then: []api.Stmt{let}, Else: []api.Stmt{let}}
		if got, want := strings.TrimPrefix(of(ahead, let), "q{c} "), "p{d}? p{d}? p{a}"; got != want {
			t.Errorf("behind a statement of kind %d is found %s, not %s", kind, got, want)
		}
	}
	if got, want := of(api.Stmt{Kind: api.StWhile, Then: []api.Stmt{let}, Else: []api.Stmt{let}}, let), "p{a} p{d}? p{a}"; got != want {
		t.Errorf("behind a while is found %s, not %s", got, want)
	}
	for _, kind := range []int{api.ItChan, api.ItBad, 0, -1, 4} {
		f := api.File{Items: []api.Item{{Kind: kind, Name: "f", Params: param, Body: []api.Stmt{let}}}}
		if got := Labels(f); !reflect.DeepEqual(got, f) {
			t.Errorf("of an item of kind %d comes %v", kind, got)
		}
	}
	// An open set, or send, is none.
	for _, kind := range []int{api.StSet, api.StSend, api.StBack, api.StDo, api.StIf, api.StWhile, api.StBad} {
		f := api.File{Items: []api.Item{{Kind: api.ItFn, Params: param, Body: []api.Stmt{{Kind: kind, Name: "x", Open: true, Label: 8, E: x}}}}}
		if got := Labels(f); !reflect.DeepEqual(got, f) {
			t.Errorf("of a statement of kind %d comes %v", kind, got)
		}
	}
}

// Much of everything comes to an end: a secret that must go from each let to the one ahead of it, too.
func TestGreat(t *testing.T) {
	name := func(k int) string { return "v" + string(rune('a'+k/10)) + string(rune('0'+k%10)) }
	var head, tail, want []string
	for k := range api.MaxStmts - 1 {
		head = append(head, "let "+name(k)+"=1;")
		tail = append(tail, name(k)+"="+name(k+1)+";")
		want = append(want, name(k)+"{a}")
	}
	tail[len(tail)-1] = name(api.MaxStmts-2) + "=x;"
	finds(t, "", []row{
		{"fn f(x: {a}): {} {" + strings.Join(head, "") + "while 1{" + strings.Join(tail, "") + "}}", strings.Join(want, " ")},
	})
	block := strings.Repeat("let x=x;", api.MaxStmts-1)
	s := "fn f(x: {a}): {} {" + strings.Repeat(block+"while x{", api.MaxNest-2) + block
	want = nil
	for range (api.MaxStmts - 1) * (api.MaxNest - 1) {
		want = append(want, "x{a}")
	}
	finds(t, "", []row{
		{s, strings.Join(want, " ")},
		{"fn f(x: {a}): {} { let p = " + strings.Repeat("1+", 1900) + "x; }", "p{a}"},
	})
	f := read(t, "chan c: {a};\nfn f(x: {b}): {} { let p = 1; p = f(x) + x; }")
	for range 100000 {
		f.Items[1].Sends = append(f.Items[1].Sends, api.Ref{Name: "c"}, api.Ref{Name: "none"})
	}
	if g := Labels(f); found(g) != " / p{b}" || len(g.Items[1].Sends) != 200000 {
		t.Errorf("with many sends is found %s", found(g))
	}
}
