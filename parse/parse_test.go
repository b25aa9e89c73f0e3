package parse

import (
	"fmt"
	"math"
	"math/rand"
	"reflect"
	"slices"
	"strings"
	"testing"

	"undertone/api"
	"undertone/lex"
)

// pieces are the texts of s's items, and where they begin.
func pieces(s string) ([]string, []int) {
	cuts := lex.Cuts(s)
	var out []string
	for i, at := range cuts {
		end := len(s)
		if i+1 < len(cuts) {
			end = cuts[i+1]
		}
		out = append(out, s[at:end])
	}
	return out, cuts
}

// filed is what File must tell of s, if nothing is too much.
func filed(s string) api.File {
	var f api.File
	texts, cuts := pieces(s)
	for i, text := range texts {
		f.Items = append(f.Items, Item(text, cuts[i]))
	}
	return f
}

// again holds Again, from old on, against what File must tell, and against the texts of items.
func again(t *testing.T, old, s string) {
	t.Helper()
	f, err := File(old)
	if err != api.OK {
		t.Fatalf("File(%q) tells %d", old, err)
	}
	known, _ := pieces(old)
	texts, _ := pieces(s)
	fresh := 0
	for _, text := range texts {
		if !slices.Contains(known, text) {
			fresh++
		}
	}
	got, n, err := Again(f, old, s)
	if want := filed(s); err != api.OK || n != fresh || !reflect.DeepEqual(got, want) {
		t.Fatalf("Again(%q, %q) is %+v, %d, %d, not %+v, %d", old, s, got, n, err, want, fresh)
	}
	if !reflect.DeepEqual(f, filed(old)) {
		t.Fatalf("Again(%q, %q) changes what it is given", old, s)
	}
}

const src = "# head\nchan c: {};\n\nfn f(): {} { 1; }\n # between\nfn g(): {} { return f(); }\n"

func TestFile(t *testing.T) {
	f, err := File(src)
	if err != api.OK || len(f.Items) != 3 {
		t.Fatalf("File is %v, %d", f, err)
	}
	for i, want := range []string{"7 13 chan c:0", "20 29 fn f():0 {bad bad}", "49 27 fn g():0 {return f();}"} {
		it := f.Items[i]
		if got := fmt.Sprint(it.At, " ", it.Size, " ", shape(it)); got != want {
			t.Errorf("item %d is %s, not %s", i, got, want)
		}
	}
	if got := told(f.Items[1].Diags); got != "form 13 1; form 14 ;" {
		t.Errorf("places in an item are not its own: %s", got)
	}
	for _, s := range []string{src, "", " \n# x", "x", "x\nfn\nchan", "fn f(): {} {\nfn g(): {} { }", "fn f(): {} {\n fn g(): {} { }", "fn a\nfn a\nfn a"} {
		got, err := File(s)
		if want := filed(s); err != api.OK || !reflect.DeepEqual(got, want) {
			t.Errorf("File(%q) is %+v, %d, not %+v", s, got, err, want)
		}
	}
}

func TestFileLimits(t *testing.T) {
	text := func(n int) string { return strings.Repeat(" ", n-1) + "x" }
	items := func(n int) string { return strings.Repeat("chan c: {};\n", n) }
	wide := items(api.MaxItems)
	wide += strings.Repeat(" ", api.MaxText-len(wide))
	for _, c := range []struct {
		s   string
		n   int
		err api.Errno
	}{
		{text(api.MaxText), 1, api.OK},
		{text(api.MaxText + 1), 0, api.ErrMuch},
		{strings.Repeat(" ", api.MaxText), 0, api.OK},
		{strings.Repeat(" ", api.MaxText+1), 0, api.ErrMuch},
		{items(api.MaxItems), api.MaxItems, api.OK},
		{items(api.MaxItems + 1), 0, api.ErrMany},
		{"x\n" + items(api.MaxItems), 0, api.ErrMany},
		{"x\n" + items(api.MaxItems-1), api.MaxItems, api.OK},
		{wide, api.MaxItems, api.OK},
		{items(1000), 0, api.ErrMuch},
	} {
		f, err := File(c.s)
		if len(f.Items) != c.n || err != c.err {
			t.Errorf("File of %d bytes has %d items, %d, not %d, %d", len(c.s), len(f.Items), err, c.n, c.err)
		}
		g, n, err := Again(filed(src), src, c.s)
		if len(g.Items) != c.n || err != c.err || err != api.OK && n != 0 {
			t.Errorf("Again of %d bytes has %d items, %d fresh, %d", len(c.s), len(g.Items), n, err)
		}
	}
}

func TestAgain(t *testing.T) {
	a, b, c := "chan a: {};\n", "fn b(): {} { ; }\n", "fn c("
	l := []string{"", a, b, c, a + b, b + a, a + a, a + b + c, c, " " + a, "# x\n" + a + b, a + b + b + a, "x\n" + a, "x\n" + a + " # x", src}
	for _, old := range l {
		for _, s := range l {
			again(t, old, s)
		}
	}
}

func TestAgainByEdits(t *testing.T) {
	m := rand.New(rand.NewSource(3))
	bits := []string{"", "x", " ", "\n", "\nfn ", "chan ", "}", "{", "fn f(): {} { }\n", "chan c: {a};\n", "?", "# ", ";"}
	s := src
	for range 5000 {
		from := m.Intn(len(s) + 1)
		to := min(len(s), from+m.Intn(8))
		next, err := Change(s, api.Edit{From: from, To: to, Text: bits[m.Intn(len(bits))]})
		if err != api.OK || next != s[:from]+next[from:len(next)-len(s)+to]+s[to:] {
			t.Fatalf("an edit of %q, from %d to %d, is %q, %d", s, from, to, next, err)
		}
		again(t, s, next)
		s = next
		if len(s) > 300 || len(lex.Cuts(s)) >= api.MaxItems-1 {
			s = src
		}
	}
}

// A file that isn't the text's own may stand beside it.
func TestAgainOfOthers(t *testing.T) {
	for _, it := range []api.Item{{At: -1}, {Size: -1}, {At: 3, Size: 99}, {At: 99}, {At: math.MaxInt, Size: math.MaxInt}, {At: math.MinInt, Size: 1}, {At: 1, Size: math.MaxInt}, {Size: math.MinInt}} {
		f := api.File{Items: []api.Item{it}}
		got, n, err := Again(f, "fn f", src)
		if err != api.OK || n != 3 || !reflect.DeepEqual(got, filed(src)) {
			t.Errorf("beside %v Again is %v, %d, %d", it, got, n, err)
		}
	}
}

// wipe changes all of an item's memory, its spare room too.
func wipe(it *api.Item) {
	for i := range it.Params[:cap(it.Params)] {
		it.Params[:cap(it.Params)][i] = api.Param{Name: "wiped"}
	}
	for i := range it.Sends[:cap(it.Sends)] {
		it.Sends[:cap(it.Sends)][i] = api.Ref{Name: "wiped"}
	}
	for i := range it.Diags[:cap(it.Diags)] {
		it.Diags[:cap(it.Diags)][i] = api.Diag{Name: "wiped"}
	}
	wipeStmts(it.Body)
}

func wipeStmts(l []api.Stmt) {
	l = l[:cap(l)]
	for i := range l {
		wipeStmts(l[i].Then)
		wipeStmts(l[i].Else)
		wipeExprs(l[i].E.Args)
		l[i] = api.Stmt{Name: "wiped"}
	}
}

func wipeExprs(l []api.Expr) {
	l = l[:cap(l)]
	for i := range l {
		wipeExprs(l[i].Args)
		l[i] = api.Expr{Name: "wiped"}
	}
}

func TestBinds(t *testing.T) {
	for bind, l := range []string{"fn x 1 ? ( ) { } , : ; == <= ++ ** +- /", "= <", "+ -", "*"} {
		for _, text := range strings.Fields(l) {
			if got := Binds(text); got != bind {
				t.Errorf("%q binds as %d, not as %d", text, got, bind)
			}
		}
	}
	if got := Binds(""); got != 0 {
		t.Errorf("nothing binds as %d", got)
	}
}

func TestOwn(t *testing.T) {
	for seed := range int64(300) {
		s, want := right(seed)
		if seed%2 == 1 {
			s = s[:len(s)/2]
			want = Item(s, 0)
		}
		it := Item(s, 0)
		got := Own(it)
		if !reflect.DeepEqual(got, want) {
			t.Fatalf("a copy of %q is %+v, not %+v", s, got, want)
		}
		wipe(&got)
		if !reflect.DeepEqual(it, want) {
			t.Fatalf("who changes a copy of %q changes it", s)
		}
		got = Own(it)
		wipe(&it)
		if !reflect.DeepEqual(got, want) {
			t.Fatalf("who changes %q changes its copy", s)
		}
	}
	if got := Own(api.Item{}); !reflect.DeepEqual(got, api.Item{}) {
		t.Errorf("a copy of nothing is %v", got)
	}
	odd := api.Item{Kind: 99, Name: "x", Label: -1, At: -5, Size: -7, Mark: 3, Body: []api.Stmt{{Kind: -1, Open: true, E: api.Expr{Kind: 77, N: 5}}}}
	if got := Own(odd); !reflect.DeepEqual(got, odd) {
		t.Errorf("a copy of %v is %v", odd, got)
	}
}

// Spare room that is handed in is neither read nor written.
func TestOwnSpareRoom(t *testing.T) {
	room := []api.Stmt{{Name: "a"}, {Name: "behind"}}
	it := Own(api.Item{Body: room[:1]})
	_ = append(it.Body, api.Stmt{Name: "new"})
	if len(it.Body) != 1 || room[1].Name != "behind" {
		t.Errorf("spare room is shared: %v, %v", it, room)
	}
	for _, st := range it.Body[:cap(it.Body)] {
		if st.Name == "behind" {
			t.Errorf("spare room is copied")
		}
	}
}

func TestAgainIsNew(t *testing.T) {
	f, _ := File(src)
	twice := src + src
	got, n, _ := Again(f, src, twice)
	if n != 1 || len(got.Items) != 6 {
		t.Fatalf("Again has %d items, %d fresh", len(got.Items), n)
	}
	for i := range f.Items {
		wipe(&f.Items[i])
	}
	for i := range got.Items {
		if !reflect.DeepEqual(got.Items[i], filed(twice).Items[i]) {
			t.Fatalf("item %d shares memory", i)
		}
		wipe(&got.Items[i])
	}
}

func TestChange(t *testing.T) {
	const s = "abcd"
	for from := -2; from <= 6; from++ {
		for to := -2; to <= 6; to++ {
			for _, text := range []string{"", "x", "xyz"} {
				got, err := Change(s, api.Edit{From: from, To: to, Text: text})
				if from < 0 || from > to || to > 4 {
					if got != "" || err != api.ErrRange {
						t.Errorf("bytes %d to %d of %q may be %q: %q, %d", from, to, s, text, got, err)
					}
					continue
				}
				var want []byte
				for i := range len(s) + 1 {
					if i == from {
						want = append(want, text...)
					}
					if i < len(s) && (i < from || i >= to) {
						want = append(want, s[i])
					}
				}
				if got != string(want) || err != api.OK {
					t.Errorf("bytes %d to %d of %q being %q: %q, %d", from, to, s, text, got, err)
				}
			}
		}
	}
}

func TestChangeLimits(t *testing.T) {
	x := func(n int) string { return strings.Repeat("x", n) }
	const most = api.MaxText
	for _, c := range []struct {
		s    string
		e    api.Edit
		size int
		err  api.Errno
	}{
		{"", api.Edit{}, 0, api.OK},
		{"", api.Edit{Text: x(most)}, most, api.OK},
		{"", api.Edit{Text: x(most + 1)}, 0, api.ErrMuch},
		{"y", api.Edit{Text: x(most)}, 0, api.ErrMuch},
		{"y", api.Edit{To: 1, Text: x(most)}, most, api.OK},
		{"y", api.Edit{To: 2, Text: x(most + 1)}, 0, api.ErrRange},
		{x(most), api.Edit{From: 5, To: 6, Text: "yz"}, 0, api.ErrMuch},
		{x(most), api.Edit{From: 5, To: 7, Text: "yz"}, most, api.OK},
		{x(most), api.Edit{From: most, To: most, Text: ""}, most, api.OK},
		{x(most + 1), api.Edit{}, 0, api.ErrMuch},
		{x(most + 1), api.Edit{From: 1, To: 2}, most, api.OK},
		{x(3 * most), api.Edit{From: 1, To: 3 * most}, 1, api.OK},
		{x(9), api.Edit{From: 1, To: math.MaxInt}, 0, api.ErrRange},
		{x(9), api.Edit{From: math.MinInt, To: 1}, 0, api.ErrRange},
		{x(9), api.Edit{From: math.MaxInt, To: math.MinInt}, 0, api.ErrRange},
		{x(9), api.Edit{From: math.MinInt, To: math.MaxInt}, 0, api.ErrRange},
		{x(9), api.Edit{From: 10, To: 10}, 0, api.ErrRange},
	} {
		got, err := Change(c.s, c.e)
		if len(got) != c.size || err != c.err {
			t.Errorf("of %d bytes, by %d to %d and %d bytes, come %d, %d, not %d, %d", len(c.s), c.e.From, c.e.To, len(c.e.Text), len(got), err, c.size, c.err)
		}
	}
}

func TestGreatTexts(t *testing.T) {
	for _, p := range []string{"(", ")", "{", "}", "x", "x ", "x;", "1+", "f(", "if 1{", "let ", "?", "fn ", ", ", "a,", "f(1,", "send c ", "if{", "# "} {
		for _, head := range []string{"", "fn f(): {} { ", "fn f(): {} { return ", "fn f(", "fn f(): {", "fn f(): {} sends "} {
			s := head + strings.Repeat(p, 15000)
			if why := fit(s, Item(s, 0)); why != "" {
				t.Errorf("Item of %q and many %q: %s", head, p, why)
			}
		}
	}
}
