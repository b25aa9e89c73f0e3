package parse

import (
	"fmt"
	"strings"
	"testing"

	"undertone/api"
)

// times has one diag n times.
func times(n int, diag string) string {
	return strings.TrimSuffix(strings.Repeat(diag+"; ", n), "; ")
}

// reads holds what is told of s, and what is read of it, against what must be.
func reads(t *testing.T, s, diags, form string) {
	t.Helper()
	it := Item(s, 5)
	if got := told(it.Diags); got != diags {
		t.Errorf("Item(%q) tells\n%s, not\n%s", s, got, diags)
	}
	if got := shape(it); got != form {
		t.Errorf("Item(%q) is\n%s, not\n%s", s, got, form)
	}
	if why := fit(s, it); why != "" || it.At != 5 {
		t.Errorf("Item(%q) at %d: %s", s, it.At, why)
	}
}

type wrong struct{ s, diags, form string }

func TestWrongItems(t *testing.T) {
	for _, c := range []wrong{
		{"", "form 0", "bad"},
		{" # x", "form 4", "bad"},
		{"x y", "form 0 x", "bad"},
		{" ? fn", "form 1 ?", "bad"},
		{"sends c", "form 0 sends", "bad"},
		{"Fn f(): {} { }", "form 0 Fn", "bad"},
		{"chan c: {b,a,};", "", "chan c:3"},
		{"chan _: {};", "", "chan _:0"},
		{"chan c {};", "form 7 {", "chan c:0"},
		{"chan c: a;", times(3, "form 8 a"), "chan c:0"},
		{"chan c: {a;", "form 10 ;", "chan c:1"},
		{"chan c: {a,;", "form 11 ;", "chan c:1"},
		{"chan c: {,};", times(3, "form 9 ,"), "chan c:0"},
		{"chan c: {a,,b};", times(3, "form 11 ,"), "chan c:1"},
		{"chan c: {a b};", times(3, "form 11 b"), "chan c:1"},
		{"chan c: {ab};", times(3, "form 9 ab"), "chan c:0"},
		{"chan c: {A};", times(3, "form 9 A"), "chan c:0"},
		{"chan c: {i};", times(3, "form 9 i"), "chan c:0"},
		{"chan c: {1};", times(3, "form 9 1"), "chan c:0"},
		{"chan c: {fn};", times(3, "form 9 fn"), "chan c:0"},
		{"chan c: {{a}};", times(3, "form 9 {"), "chan c:0"},
		{"chan c: {a,a,b,a,};", "name 11 a; name 15 a", "chan c:3"},
		{"chan c: {};;", "form 11 ;", "chan c:0"},
		{"chan c: {}; chan d: {};", "form 12 chan", "chan c:0"},
		{"chan sends: {h};", "name 5 sends", "chan ~:128"},
		{"chan abcdefghijkl: {};", "", "chan abcdefghijkl:0"},
		{"chan abcdefghijklm: {};", "name 5 abcdefghijklm", "chan ~:0"},
		{"chan ?: {};", times(5, "form 5 ?"), "chan ~:0"},
		{"chan : {};", "form 5 :", "chan ~:0"},
	} {
		reads(t, c.s, c.diags, c.form)
	}
}

func TestWrongFunctions(t *testing.T) {
	for _, c := range []wrong{
		{"fn f(x: {a}, x: {b},): {c} sends d, d { }", "", "fn f(x:1 x:2 !d !d):4 {}"},
		{"fn let(): {} { }", "name 3 let", "fn ~():0 {}"},
		{"fn (): {} { }", "form 3 (", "fn ~():0 {}"},
		{"fn 1(): {} { }", times(9, "form 3 1"), "fn ~():0 {}"},
		{"fn f x: {}): {} { }", "form 5 x", "fn f(x:0):0 {}"},
		{"fn f: {} { }", "form 4 :; form 4 :; form 9 {; form 9 {; form 12", "fn f(~:0):0 {}"},
		{"fn f(,): {} { }", times(7, "form 5 ,"), "fn f():0 {}"},
		{"fn f(x: {},,): {} { }", times(7, "form 11 ,"), "fn f(x:0):0 {}"},
		{"fn f(x, y: {}): {} { }", times(6, "form 6 ,"), "fn f():0 {}"},
		{"fn f(fn: {a}): {} { }", "name 5 fn", "fn f(~:1):0 {}"},
		{"fn f(fn, x: {}): {} { }", "name 5 fn; " + times(6, "form 7 ,"), "fn f():0 {}"},
		{"fn f(: {a}): {} { }", "form 5 :", "fn f(~:1):0 {}"},
		{"fn f(x: {} y: {}): {} { }", times(5, "form 11 y"), "fn f(x:0):0 {}"},
		{"fn f(x: a): {} { }", times(6, "form 8 a"), "fn f(x:0):0 {}"},
		{"fn f(x: , y: {a}): {} { }", "form 8 ,", "fn f(x:0 y:1):0 {}"},
		{"fn f(x: {a} : {} { }", "form 12 :", "fn f(x:1):0 {}"},
		{"fn f() {b} { }", "form 7 {", "fn f():2 {}"},
		{"fn f(): sends c { x; }", "form 8 sends", "fn f(!c):0 {x;}"},
		{"fn f(): { x; }", times(3, "form 10 x"), "fn f():0 {}"},
		{"fn f(): {} { } }", "form 15 }", "fn f():0 {}"},
		{"fn f(): {} sends { }", "form 17 {", "fn f(!~):0 {}"},
		{"fn f(): {} sends c, { }", "form 20 {", "fn f(!c !~):0 {}"},
		{"fn f(): {} sends c d { }", times(2, "form 19 d"), "fn f(!c):0 {}"},
		{"fn f(): {} sends let, d { }", "name 17 let", "fn f(!~ !d):0 {}"},
		{"fn f(): {} sends 1, d { }", times(3, "form 17 1"), "fn f(!~):0 {}"},
		{"fn f(): {} sends , d { }", "form 17 ,", "fn f(!~ !d):0 {}"},
		{"fn f(): {} c { }", times(2, "form 11 c"), "fn f():0 {}"},
	} {
		reads(t, c.s, c.diags, c.form)
	}
}

func TestWrongStatements(t *testing.T) {
	const long = "abcdefghijklm"
	for _, c := range []wrong{
		{"let x: {} = 1; let y = x; x = y; x(); x; x + 1; x(1) = 2; send x y; return 1;", "",
			"{let x:0=1; let y=x; x=y; x(); x; (x+1); (x(1)=2); send x y; return 1;}"},
		{"if x { } if x { x; } else { y; } while x { x; }", "", "{if x{}{} if x{x;}{y;} while x{x;}}"},
		{"let 1 = 2;", times(2, "form 17 1"), "{let ~=(1=2);}"},
		{"let let = 1;", "name 17 let", "{let ~=1;}"},
		{"let x: {a,a} = 1;", "name 23 a", "{let x:1=1;}"},
		{"let x: {a = 1;", "form 23 =", "{let x:1=1;}"},
		{"let x: a = 1;", times(2, "form 20 a"), "{let x:0=(a=1);}"},
		{"let x = 1", "form 23 }", "{let x=1;}"},
		{"let x;", times(2, "form 18 ;"), "{let x=?;}"},
		{"x 1;", "form 15 1; form 15 1; form 16 ;", "{x; bad bad}"},
		{"x y;", "form 15 y", "{x; y;}"},
		{"if 1 x = 2;", "form 18 x", "{if 1{}{} x=2;}"},
		{"if 1 { } else x = 2;", "form 27 x", "{if 1{}{} x=2;}"},
		{"if 1 else { x; }", "form 18 else", "{if 1{}{x;}}"},
		{"if { x; }", "form 16 {", "{if ?{x;}{}}"},
		{"if", times(2, "form 16 }"), "{if ?{}{}}"},
		{"while { }", "form 19 {", "{while ?{}}"},
		{"while 1;", times(2, "form 20 ;"), "{while 1{} bad}"},
		{"while 1 { } else { }", "form 25 else; form 30 {; form 34 }", "{while 1{} bad bad}"},
		{"else", "form 13 else", "{bad}"},
		{"sends c;", "form 13 sends", "{bad c;}"},
		{"send 1;", "form 18 1", "{send ~ 1;}"},
		{"send fn 1;", "name 18 fn", "{send ~ 1;}"},
		{"send c;", "form 19 ;", "{send c ?;}"},
		{"send c(1);", "", "{send c 1;}"},
		{"send", times(3, "form 18 }"), "{send ~ ?;}"},
		{"return", times(2, "form 20 }"), "{return ?;}"},
		{"return let x = 1;", times(2, "form 20 let"), "{return ?; let x=1;}"},
		{"fn g(): {} { }", "form 13 fn; form 19 :; form 19 :; form 21 {; form 24 {", "{bad g(); bad bad}"},
		{"(x);", "form 13 (; form 15 ); form 15 ); form 16 ;", "{bad x; bad bad}"},
		{"1;", "form 13 1; form 14 ;", "{bad bad}"},
		{"{ }", "form 13 {; form 17 }", "{bad}"},
		{"? x;", "form 13 ?", "{bad x;}"},
		{long + " = 1;", "form 13 " + long + "; form 27 =; form 29 1; form 30 ;", "{bad bad bad bad}"},
	} {
		reads(t, "fn f(): {} { "+c.s+" }", c.diags, "fn f():0 "+c.form)
	}
}

func TestWrongExpressions(t *testing.T) {
	const long = "abcdefghijklm"
	for _, c := range []wrong{
		{"1 + 2 * 3 - 4;", "", "((1+(2*3))-4);"},
		{"1 * 2 + 3 < 4 = 5 * 6;", "", "((((1*2)+3)<4)=(5*6));"},
		{"1 - 2 - 3 + 4;", "", "(((1-2)-3)+4);"},
		{"1 = 2 < 3 = 4;", "", "(((1=2)<3)=4);"},
		{"1 * 2 * 3;", "", "((1*2)*3);"},
		{"1 * (2 + 3) * (4 < 5);", "", "((1*(2+3))*(4<5));"},
		{"((1 - (2 - 3)));", "", "(1-(2-3));"},
		{"f(1 + 2, (x), g(),);", "", "f((1+2),x,g());"},
		{"f (1) (2);", "form 26 (; form 26 (; form 27 2; form 28 ); form 29 ;", "f(1); bad bad bad bad"},
		{"1(2);", "form 21 (; form 21 (; form 22 2; form 23 ); form 24 ;", "1; bad bad bad bad"},
		{"= = 1;", "form 20 =; form 22 =", "((?=?)=1);"},
		{"+ 1;", "form 20 +", "(?+1);"},
		{"-1;", "form 20 -", "(?-1);"},
		{"1 + * 2;", "form 24 *", "(1+(?*2));"},
		{"1 * + 2;", "form 24 +", "((1*?)+2);"},
		{"1 2;", "form 22 2; form 22 2; form 23 ;", "1; bad bad"},
		{"x ? 1;", "form 22 ?; form 22 ?; form 24 1; form 25 ;", "x; bad bad bad"},
		{"(1;", "form 22 ;", "1;"},
		{"();", "form 21 )", "?;"},
		{"1);", "form 21 ); form 21 ); form 22 ;", "1; bad bad"},
		{"f(1;", "form 23 ;", "f(1);"},
		{"f(;", times(2, "form 22 ;"), "f(?);"},
		{"f(,);", "form 22 ,", "f(?);"},
		{"f(1,,);", "form 24 ,", "f(1,?);"},
		{"f(,1);", "form 22 ,", "f(?,1);"},
		{"f(1 2);", "form 24 2; form 24 2; form 24 2; form 25 ); form 26 ;", "f(1); bad bad bad"},
		{"f(1 + , 2);", "form 26 ,", "f((1+?),2);"},
		{"else;", times(3, "form 20 else") + "; form 24 ;", "?; bad bad"},
		{long + ";", times(3, "form 20 "+long) + "; form 33 ;", "?; bad bad"},
		{"abcdefghijkl;", "", "abcdefghijkl;"},
		{"1000000000;", "", "1000000000;"},
		{"1000000001 + 1;", "range 20 1000000001", "(0+1);"},
		{"18446744073709551617;", "range 20 18446744073709551617", "0;"},
		{"00000000000000000000000000000;", "", "0;"},
		{"0000000000000001000000000;", "", "1000000000;"},
		{"0000000000000001000000001;", "range 20 0000000000000001000000001", "0;"},
	} {
		reads(t, "fn f(): {} { return "+c.s+" }", c.diags, "fn f():0 {return "+c.form+"}")
	}
}

// What a text lacks that ends too soon is told at its end, not where its last token ends.
func TestTextsThatEnd(t *testing.T) {
	for _, c := range []struct {
		s     string
		times int
		form  string
	}{
		{"fn", 6, "fn ~():0 {}"},
		{"fn f", 5, "fn f():0 {}"},
		{"fn f(", 4, "fn f():0 {}"},
		{"fn f(x", 5, "fn f():0 {}"},
		{"fn f(x:", 5, "fn f(x:0):0 {}"},
		{"fn f(x: {", 5, "fn f(x:0):0 {}"},
		{"fn f(x: {b", 5, "fn f(x:2):0 {}"},
		{"fn f(x: {b,", 5, "fn f(x:2):0 {}"},
		{"fn f(x: {},", 4, "fn f(x:0):0 {}"},
		{"fn f(x: {})", 3, "fn f(x:0):0 {}"},
		{"fn f():", 2, "fn f():0 {}"},
		{"fn f(): {", 2, "fn f():0 {}"},
		{"fn f(): {a,", 2, "fn f():1 {}"},
		{"fn f(): {}", 1, "fn f():0 {}"},
		{"fn f(): {} sends", 2, "fn f(!~):0 {}"},
		{"fn f(): {} sends c", 1, "fn f(!c):0 {}"},
		{"fn f(): {} sends c,", 2, "fn f(!c !~):0 {}"},
		{"fn f(): {} {", 1, "fn f():0 {}"},
		{"fn f(): {} { let", 5, "fn f():0 {let ~=?;}"},
		{"fn f(): {} { let x", 4, "fn f():0 {let x=?;}"},
		{"fn f(): {} { let x:", 5, "fn f():0 {let x:0=?;}"},
		{"fn f(): {} { let x =", 3, "fn f():0 {let x=?;}"},
		{"fn f(): {} { let x = 1", 2, "fn f():0 {let x=1;}"},
		{"fn f(): {} { let x = 1;", 1, "fn f():0 {let x=1;}"},
		{"fn f(): {} { if", 3, "fn f():0 {if ?{}{}}"},
		{"fn f(): {} { if 1", 2, "fn f():0 {if 1{}{}}"},
		{"fn f(): {} { if 1 {", 2, "fn f():0 {if 1{}{}}"},
		{"fn f(): {} { if 1 { }", 1, "fn f():0 {if 1{}{}}"},
		{"fn f(): {} { if 1 { } else", 2, "fn f():0 {if 1{}{}}"},
		{"fn f(): {} { if 1 { } else {", 2, "fn f():0 {if 1{}{}}"},
		{"fn f(): {} { while", 3, "fn f():0 {while ?{}}"},
		{"fn f(): {} { send", 4, "fn f():0 {send ~ ?;}"},
		{"fn f(): {} { send c", 3, "fn f():0 {send c ?;}"},
		{"fn f(): {} { return", 3, "fn f():0 {return ?;}"},
		{"fn f(): {} { return 1 +", 3, "fn f():0 {return (1+?);}"},
		{"fn f(): {} { return (", 4, "fn f():0 {return ?;}"},
		{"fn f(): {} { x", 2, "fn f():0 {x;}"},
		{"fn f(): {} { x =", 3, "fn f():0 {x=?;}"},
		{"fn f(): {} { f(", 3, "fn f():0 {f();}"},
		{"fn f(): {} { f(1", 3, "fn f():0 {f(1);}"},
		{"fn f(): {} { f(1,", 3, "fn f():0 {f(1);}"},
		{"fn f(): {} { f(1, 2 *", 4, "fn f():0 {f(1,(2*?));}"},
		{"chan", 4, "chan ~:0"},
		{"chan c", 3, "chan c:0"},
		{"chan c:", 2, "chan c:0"},
		{"chan c: {", 2, "chan c:0"},
		{"chan c: {a", 2, "chan c:1"},
		{"chan c: {a}", 1, "chan c:1"},
	} {
		for _, tail := range []string{"", " ", "\n\t# end"} {
			s := c.s + tail
			reads(t, s, times(c.times, fmt.Sprint("form ", len(s))), c.form)
		}
	}
}

func TestPlaces(t *testing.T) {
	for _, c := range []struct{ s, want string }{
		{"return ((1) + ( 2 = 3 )) ;", "|return ((1) + ( 2 = 3 )) ;|[1) + ( 2 = 3][1][2 = 3][2][3]"},
		{"return ( f( (1) , 2, ) );", "|return ( f( (1) , 2, ) );|[f( (1) , 2, )][1][2]"},
		{"return 1 +  ;", "|return 1 +  ;|[1 +  ][1][]"},
		{"return 1 +", "|return 1 +|[1 + ][1][]"},
		{"return", "|return|[]"},
		{"return  ;", "|return  ;|[]"},
		{"return (1)  x;", "|return (1)|[1]|x;|[x]"},
		{"f( ;", "|f( ;|[f( ][]"},
		{"f(1, ;", "|f(1, ;|[f(1, ][1][]"},
		{"f(1, 2, 3, 4, 5,  x;", "|f(1, 2, 3, 4, 5,|[f(1, 2, 3, 4, 5,][1][2][3][4][5]|x;|[x]"},
		{"f((1)  x;", "|f((1)|[f((1)][1]|x;|[x]"},
		{"f(1 +  ) ;", "|f(1 +  ) ;|[f(1 +  )][1 +  ][1][]"},
		{"f(1 +  ;", "|f(1 +  ;|[f(1 +  ][1 +  ][1][]"},
		{" x ;  y = 2 * x ; ", "|x ;|[x]|y = 2 * x ;|[2 * x][2][x]"},
		{"if  x { y ; } else { } z;", "|if  x { y ; } else { }|[x]|y ;|[y]|z;|[z]"},
		{"if  x z;", "|if  x|[x]|z;|[z]"},
		{"if  { }", "|if  { }|[]"},
		{"while  (x) {  } z;", "|while  (x) {  }|[x]|z;|[z]"},
		{"let x : {a , } = 1 ; z;", "|let x : {a , } = 1 ;|[1]|z;|[z]"},
		{"let  x z;", "|let  x z;|[z]"},
		{"send c  x  z;", "|send c  x|[x]|z;|[z]"},
		{"? ; 1", "||||||"},
		{"if x { ? ", "|if x { ?  }|[x]||"},
	} {
		s := "fn f(): {} { " + c.s + " }"
		if got := spans(s, Item(s, 0).Body); got != c.want {
			t.Errorf("in %q stand\n%s, not\n%s", s, got, c.want)
		}
	}
}

func TestPlacesOfNames(t *testing.T) {
	const s = "fn  f( x: {}, fn: {}, : {}): {} sends  c, 1 { }"
	it := Item(s, 0)
	if got := fmt.Sprint(it.Mark, it.Params, it.Sends); got != "4 [{x 0 7} { 0 14} { 0 22}] [{c 39} { 42}]" {
		t.Errorf("names of %q stand at %s", s, got)
	}
	for _, c := range []struct {
		s    string
		mark int
	}{{"fn", 2}, {"fn  ", 4}, {"fn ?", 3}, {"chan", 4}, {"chan # c\n", 9}, {"chan\nfn: {};", 5}, {"x f", 0}} {
		if got := Item(c.s, 9).Mark; got != c.mark {
			t.Errorf("the name of %q stands at %d, not at %d", c.s, got, c.mark)
		}
	}
	for _, c := range []struct {
		s  string
		at []int
	}{
		{"let  x = 1; let = 1; let  fn = 1;", []int{18, 29, 39}},
		{"send  c 1; send  ; send  fn 1;", []int{19, 30, 38}},
		{"x = 1; x = = 1;", []int{13, 20}},
		{"x; x(); return x; if x { x = 1; } while x { } ?", []int{0, 0, 0, 0, 0, 0}},
		{"send", []int{18}},
	} {
		s := "fn f(): {} { " + c.s + " }"
		var got []int
		for _, st := range Item(s, 0).Body {
			got = append(got, st.At)
		}
		if fmt.Sprint(got) != fmt.Sprint(c.at) {
			t.Errorf("names of %q stand at %v, not at %v", s, got, c.at)
		}
	}
	if st := Item("fn f(): {} { let  ", 0).Body[0]; st.At != 18 {
		t.Errorf("at the end a name stands at %d", st.At)
	}
}

func TestManyParts(t *testing.T) {
	const head = "fn f(): {} { f("
	six := func(l string) string { return strings.Join(strings.Split(l, ""), ", ") }
	for _, c := range []wrong{
		{"fn f(a:{},b:{},c:{},d:{},e:{}): {} { }", "", "fn f(a:0 b:0 c:0 d:0 e:0):0 {}"},
		{"fn f(a:{},b:{},c:{},d:{},e:{},): {} { }", "", "fn f(a:0 b:0 c:0 d:0 e:0):0 {}"},
		{"fn f(a:{},b:{},c:{},d:{},e:{},g: {}): {} { }", "many 30 g; " + times(5, "form 30 g"), "fn f(a:0 b:0 c:0 d:0 e:0):0 {}"},
		{"fn f(a:{},b:{},c:{},d:{},e:{},,): {} { }", "many 30 ,; " + times(5, "form 30 ,"), "fn f(a:0 b:0 c:0 d:0 e:0):0 {}"},
		{"fn f(a:{},b:{},c:{},d:{},e:{},", times(4, "form 30"), "fn f(a:0 b:0 c:0 d:0 e:0):0 {}"},
		{"fn f(): {} sends " + six("abcde") + " { }", "", "fn f(!a !b !c !d !e):0 {}"},
		{"fn f(): {} sends " + six("abcdeg") + " { }", "many 32 g; " + times(2, "form 32 g"), "fn f(!a !b !c !d !e):0 {}"},
		{"fn f(): {} sends " + six("abcde") + ", { x; }", "many 32 {", "fn f(!a !b !c !d !e):0 {x;}"},
		{"fn f(): {} sends " + six("abcde") + ",", times(2, "form 31"), "fn f(!a !b !c !d !e !~):0 {}"},
		{head + six("12345") + "); }", "", "fn f():0 {f(1,2,3,4,5);}"},
		{head + six("12345") + ",); }", "", "fn f():0 {f(1,2,3,4,5);}"},
		{head + six("12345") + ", x; }", "many 30 x; " + times(2, "form 30 x"), "fn f():0 {f(1,2,3,4,5); x;}"},
		{head + six("12345") + ",,); }", "many 29 ,; " + times(3, "form 29 ,") + "; form 30 ); form 31 ;", "fn f():0 {f(1,2,3,4,5); bad bad bad}"},
		{head + six("12345") + ",", times(3, "form 29"), "fn f():0 {f(1,2,3,4,5);}"},
	} {
		reads(t, c.s, c.diags, c.form)
	}
}

func TestManyStatements(t *testing.T) {
	const forty = api.MaxStmts
	xs := func(n int) string { return strings.Repeat("x;", n) }
	shaped := func(n int) string { return "{" + strings.TrimSuffix(strings.Repeat("x; ", n), " ") + "}" }
	reads(t, "fn f(): {} {"+xs(forty)+"}", "", "fn f():0 "+shaped(forty))
	reads(t, "fn f(): {} {"+xs(forty), "form 92", "fn f():0 "+shaped(forty))
	reads(t, "fn f(): {} {"+xs(forty+1)+"}", "many 92 x; form 92 x; form 92 x", "fn f():0 "+shaped(forty))
	reads(t, "fn f(): {} {"+xs(forty)+"?", "many 92 ?; form 92 ?; form 92 ?", "fn f():0 "+shaped(forty))
	reads(t, "fn f(): {} {if 1{"+xs(forty)+"}else{"+xs(forty)+"} x;}", "", "fn f():0 {if 1"+shaped(forty)+shaped(forty)+" x;}")
	reads(t, "fn f(): {} {if 1{"+xs(forty)+"x;} y;}", "many 97 x; form 97 x; form 101 y", "fn f():0 {if 1"+shaped(forty)+"{} x;}")
	bad := strings.TrimSuffix(strings.Repeat("bad ", forty), " ")
	var diags []string
	for i := range forty {
		diags = append(diags, fmt.Sprint("form ", 12+i, " ?"))
	}
	reads(t, "fn f(): {} {"+strings.Repeat("?", forty)+"}", strings.Join(diags, "; "), "fn f():0 {"+bad+"}")
}

func join(l ...string) string { return strings.Join(l, "; ") }

// leftOut has what is told of bytes that begin no statement, each by itself.
func leftOut(at int, s string) string {
	var out []string
	for i := range s {
		out = append(out, fmt.Sprintf("form %d %c", at+i, s[i]))
	}
	return join(out...)
}

// Beside the body's own block there may be as many.
const deepest = api.MaxNest - 1

func TestDeepExpressions(t *testing.T) {
	const n = deepest
	back := func(s string) string { return "fn f(): {} {return " + s + ";}" }
	in := func(open string, n int, s string) string {
		return strings.Repeat(open, n) + s + strings.Repeat(")", n)
	}
	shaped := func(s string) string { return "fn f():0 {return " + s + ";}" }
	reads(t, back(in("(", n-1, "1")), "", shaped("1"))
	reads(t, back(in("f(", n-1, "1")), "", shaped(in("f(", n-1, "1")))
	reads(t, back(in("f(", n, "")), "", shaped(in("f(", n, "")))
	reads(t, back(in("f(", n-1, "f()*f()")), "", shaped(in("f(", n-1, "(f()*f())")))
	reads(t, back(in("(", n-1, "1")+"+"+in("(", n-1, "2")), "", shaped("(1+2)"))
	closing := strings.Repeat(")", n) + ";"
	bad := strings.Repeat(" bad", n+1)
	for _, c := range []wrong{
		{"1", join("deep 30 1", times(n+1, "form 30 1"), leftOut(30, "1"+closing)), "?; bad" + bad},
		{"(", join("deep 30 (", times(n+1, "form 30 ("), leftOut(30, "("+closing)), "?; bad" + bad},
		{"x", join("deep 30 x", times(n+1, "form 30 x"), "form 31 )", leftOut(31, closing)), "?; x;" + bad},
		// These begin no expression, however deep.
		{"", "form 30 )", "?;"},
		{"?", join(times(n+2, "form 30 ?"), leftOut(30, "?"+closing)), "?; bad" + bad},
		{";", join(times(n+1, "form 30 ;"), leftOut(31, closing)), "?;" + bad},
	} {
		reads(t, back(in("(", n, c.s)), c.diags, "fn f():0 {return "+c.form+"}")
	}
	reads(t, "fn f(): {} {return "+strings.Repeat("(", n), times(n+3, "form 30"), shaped("?"))
	deep := "fn f(): {} {return " + strings.Repeat("f(", n)
	reads(t, deep, times(n+2, "form 41"), shaped(in("f(", n, "")))
	reads(t, deep+"1", join("deep 41 1", times(n+1, "form 41 1"), "form 41 1; form 42"), "fn f():0 {return "+in("f(", n, "?")+"; bad}")
}

func TestDeepBlocks(t *testing.T) {
	const n = deepest
	const at = 12 + 5*n
	const last = at + n // of the signs that close blocks, behind what stands in them
	head := "fn f(): {} {" + strings.Repeat("if 1{", n)
	closing := strings.Repeat("}", n+1)
	shaped := func(s, behind string) string {
		return "fn f():0 {" + strings.Repeat("if 1{", n) + s + "}{}" + behind + strings.Repeat("}{}", n-1) + "}"
	}
	is := func(err string, at int, tok string) string {
		return strings.TrimSpace(fmt.Sprint(err, " ", at, " ", tok))
	}
	reads(t, head+closing, "", shaped("", ""))
	for _, c := range []wrong{
		{"return 1;", join(is("deep", at+7, "1"), is("form", at+7, "1"), leftOut(at+7, "1;")), "return ?; bad bad"},
		{"x = 1;", join(is("deep", at+4, "1"), is("form", at+4, "1"), leftOut(at+4, "1;")), "x=?; bad bad"},
		{"return ;", is("form", at+7, ";"), "return ?;"},
		{"return +1;", join(is("form", at+7, "+"), is("form", at+7, "+"), leftOut(at+7, "+1;")), "return ?; bad bad bad"},
		{"while 1{;", join(is("deep", at+6, "1"), is("form", at+6, "1"), leftOut(at+6, "1{;")), "while ?{} bad bad bad"},
		// The block that would be too deep is left, so that its `}` is another one's.
		{"while{1;", join(is("form", at+5, "{"), is("deep", at+6, "1"), leftOut(at+6, "1;")), "while ?{} bad bad"},
		{"if else{?", join(is("form", at+3, "else"), is("form", at+3, "else"), is("deep", at+8, "?"), leftOut(at+8, "?")), "if ?{}{} bad"},
	} {
		reads(t, head+c.s+closing, c.diags, shaped(c.form, ""))
	}
	reads(t, head+"if{"+closing+"}", join(is("form", at+2, "{"), is("deep", at+3, "}"), is("form", last+4, "}")), shaped("if ?{}{}", ""))
	reads(t, head+"while{", join(is("form", at+5, "{"), is("deep", at+6, ""), times(n+1, is("form", at+6, ""))), shaped("while ?{}", ""))
	reads(t, head+"return", times(n+3, is("form", at+6, "")), shaped("return ?;", ""))
	// One that is an expression alone has no bytes, and comes again until there are too many.
	stuck := join(times(api.MaxStmts, is("deep", at, "x")+"; "+is("form", at, "x")), is("many", at, "x"), is("form", at, "x"), is("form", last+2, "}"))
	reads(t, head+"x;"+closing, stuck, shaped(strings.TrimSuffix(strings.Repeat("?; ", api.MaxStmts), " "), " x;"))
	l := Item(head+"  x;"+closing, 0).Body
	for len(l) == 1 {
		l = l[0].Then
	}
	for _, st := range l[0].Then {
		if st.From != at+2 || st.To != at+2 {
			t.Errorf("one without bytes stands from %d to %d", st.From, st.To)
		}
	}
}
