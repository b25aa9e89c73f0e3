package parse

import (
	"slices"
	"strings"
	"testing"

	"undertone/lex"
)

// rule tells, of a list of tokens, all that may be left behind what the rule stands for: the chapter's forms, one by one, without a reader.
type rule func(l []string) [][]string

func one(ok func(s string) bool) rule {
	return func(l []string) [][]string {
		if len(l) == 0 || !ok(l[0]) {
			return nil
		}
		return [][]string{l[1:]}
	}
}

func sign(s string) rule { return one(func(x string) bool { return x == s }) }

func either(rules ...rule) rule {
	return func(l []string) [][]string {
		var out [][]string
		for _, r := range rules {
			out = append(out, r(l)...)
		}
		return out
	}
}

func row(rules ...rule) rule {
	return func(l []string) [][]string {
		lefts := [][]string{l}
		for _, r := range rules {
			var next [][]string
			for _, left := range lefts {
				next = append(next, r(left)...)
			}
			lefts = next
		}
		return lefts
	}
}

func maybe(r rule) rule { return either(row(), r) }

// later has rules that are made of themselves.
func later(r func() rule) rule { return func(l []string) [][]string { return r()(l) } }

func many(r rule) rule { return maybe(row(r, later(func() rule { return many(r) }))) }

func list(r rule) rule { return maybe(row(r, many(row(sign(","), r)), maybe(sign(",")))) }

var (
	number = one(func(s string) bool { return s[0] >= '0' && s[0] <= '9' })
	ident  = one(lex.Name)
	tag    = one(func(s string) bool { return len(s) == 1 && s[0] >= 'a' && s[0] <= 'h' })
)

// labelRule lets a label be only if no tag stands twice.
func labelRule(l []string) [][]string {
	var out [][]string
	for _, left := range row(sign("{"), list(tag), sign("}"))(l) {
		tags := slices.DeleteFunc(slices.Clone(l[:len(l)-len(left)]), func(s string) bool { return strings.Contains("{,}", s) })
		slices.Sort(tags)
		if len(slices.Compact(slices.Clone(tags))) == len(tags) {
			out = append(out, left)
		}
	}
	return out
}

func singleRule() rule {
	call := row(ident, sign("("), list(later(exprRule)), sign(")"))
	return either(number, ident, call, row(sign("("), later(exprRule), sign(")")))
}

var between = either(sign("="), sign("<"), sign("+"), sign("-"), sign("*"))

func exprRule() rule { return row(later(singleRule), many(row(between, later(singleRule)))) }

func doRule(l []string) [][]string {
	if len(ident(l)) == 0 {
		return nil
	}
	return row(exprRule(), sign(";"))(l)
}

func stmtRule() rule {
	e := later(exprRule)
	return either(
		row(sign("let"), ident, maybe(row(sign(":"), labelRule)), sign("="), e, sign(";")),
		row(sign("if"), e, blockRule(), maybe(row(sign("else"), blockRule()))),
		row(sign("while"), e, blockRule()),
		row(sign("send"), ident, e, sign(";")),
		row(sign("return"), e, sign(";")),
		row(ident, sign("="), e, sign(";")),
		doRule,
	)
}

func blockRule() rule { return row(sign("{"), many(later(stmtRule)), sign("}")) }

func itemRule() rule {
	param := row(ident, sign(":"), labelRule)
	sends := row(sign("sends"), ident, many(row(sign(","), ident)))
	return either(
		row(sign("chan"), ident, sign(":"), labelRule, sign(";")),
		row(sign("fn"), ident, sign("("), list(param), sign(")"), sign(":"), labelRule, maybe(sends), blockRule()),
	)
}

// rightly tells whether all of s is an item.
func rightly(s string) bool {
	var l []string
	for _, t := range lex.Tokens(s) {
		l = append(l, t.Text)
	}
	return slices.ContainsFunc(itemRule()(l), func(left []string) bool { return len(left) == 0 })
}

// all calls f with all texts of up to n of the pieces, with blanks between, behind head and ahead of tail.
func all(head, pieces, tail string, n int, f func(s string)) {
	l := strings.Fields(pieces)
	var grow func(s string, left int)
	grow = func(s string, left int) {
		f(head + s + tail)
		for _, p := range l {
			if left > 0 {
				grow(s+" "+p, left-1)
			}
		}
	}
	grow("", n)
}

// Something is wrong with just those texts that have not the chapter's forms.
func TestForms(t *testing.T) {
	const head, tail = "fn f(): {} {", " }"
	for _, c := range []struct {
		head, pieces, tail string
		n                  int
	}{
		{"", "fn f ( ) : {} { } ; chan ?", "", 4},
		{"fn f", "( ) x : {a} , 1 fn", ": {} { }", 4},
		{"fn f(", "x x: {a} {a,} , y: )", "): {} { }", 4},
		{"fn f() :", "{ } a b , h i aa {}", "{ }", 4},
		{"fn f(): {}", "sends c , { } {} d x; 1", "{ }", 4},
		{"chan", "c : {} {a} ; , fn {a,a}", "", 4},
		{head, "x = 1 + ; ( ) ,", tail, 5},
		{head, "let x : {a} = 1; y ;", tail, 5},
		{head, "if x { } else while 1 ;", tail, 5},
		{head, "send c x 1 ; return ( ) fn", tail, 5},
		{head + " return", "f( ( ) 1 , * < x", "; }", 4},
		{head + " x = ", "abcdefghijklm else 1 + ; ?", "; }", 4},
		{head, "{ } ; x; if x{ else{ let", "", 4},
	} {
		wrong, ok := 0, 0
		all(c.head, c.pieces, c.tail, c.n, func(s string) {
			it := Item(s, 0)
			if rightly(s) != (len(it.Diags) == 0) {
				t.Fatalf("Item(%q) tells %v", s, it.Diags)
			}
			if why := fit(s, it); why != "" {
				t.Fatalf("Item(%q): %s", s, why)
			}
			if len(it.Diags) == 0 {
				ok++
			} else {
				wrong++
			}
		})
		if wrong == 0 || ok == 0 && c.head != "" {
			t.Errorf("%q: %d right ones, and %d wrong ones", c.head+" .. "+c.tail, ok, wrong)
		}
	}
}
