package flow

import (
	"math"
	"strings"
	"testing"

	"undertone/api"
	"undertone/label"
)

// flowsTo has what flows to each let of the last item.
func flowsTo(f api.File) string {
	var l []string
	for _, n := range Lets(f, len(f.Items)-1) {
		l = append(l, label.Print(n))
	}
	return strings.Join(l, " ")
}

// To a let flows what it is made of, what it is set to, and what both are under.
func TestLets(t *testing.T) {
	for _, c := range []row{
		{"", ""},
		{"chan c: {a};", ""},
		{"x", ""},
		{"fn f" + pair + "{} { }", ""},
		{"fn f" + pair + "{} { let p = 1; let q = x; let r: {c} = x + y; let s: {c} = z; }", "{} {a} {a,b} {}"},
		{"fn f" + pair + "{} { let p = 1; p = x; let q: {} = y; q = 1; q = x; z = y; none = y; }", "{a} {a,b}"},
		{"fn f" + pair + "{} { if x { let p = 1; if y { p = z; let q = 1; } else { let r = 1; } } while y { let s = 1; } let u = 1; }", "{a,b} {a,b} {a,b} {b} {}"},
		// Labels are as they are: a let without one has that of what it is made of, wherever it is set.
		{"fn f" + pair + "{} { let p = 1; let q = 1; q = p; p = x; let r: {c} = x; let s = r; }", "{a} {} {a} {c}"},
		// The last one of a name is meant; one without a name is none.
		{"fn f" + pair + "{} { let p = 1; if 1 { let p = 2; p = x; } p = y; let p = 3; p = z; }", "{b} {a} {}"},
		{"fn f" + pair + "{} { let = x; let = 1; abcdefghijklm = y; }", "{a} {}"},
		{"fn g(p: {a}): {c} { }\nfn f" + pair + "{} { let p = g(x); p = none(x); let q = none; let r", "{c} {} {}"},
	} {
		if got := flowsTo(read(t, c.s)); got != c.diags {
			t.Errorf("of %q flows to lets %s, not %s", c.s, got, c.diags)
		}
	}
	f := read(t, "fn f(x: {a}): {} { let p = x; }")
	for _, i := range []int{-1, 1, math.MinInt, math.MaxInt} {
		if got := Lets(f, i); len(got) != 0 {
			t.Errorf("of item %d flows to lets %v", i, got)
		}
	}
}
