package flow

import (
	"math"
	"strings"
	"testing"

	"undertone/api"
)

// heard has, for each byte of item i, the label that is told of it, or a dot.
func heard(t *testing.T, f api.File, i int) string {
	t.Helper()
	var out strings.Builder
	for at := range f.Items[i].Size {
		n, ok := Label(f, i, at)
		if n < 0 || n > 7 || !ok && n != 0 {
			t.Errorf("at byte %d of item %d stands %d, %v", at, i, n, ok)
		}
		if ok {
			out.WriteByte('0' + byte(n))
		} else {
			out.WriteByte('.')
		}
	}
	return out.String()
}

// hears holds what is told of the last item of a text against what must be.
func hears(t *testing.T, ahead string, rows []row) {
	t.Helper()
	for _, c := range rows {
		f := read(t, ahead+c.s)
		if got := heard(t, f, len(f.Items)-1); got != c.diags {
			t.Errorf("of\n%s is told\n%s, not\n%s", c.s, got, c.diags)
		}
	}
}

func TestLabel(t *testing.T) {
	hears(t, "fn g(p: {a}): {c} { }\n", []row{
		{"fn f(x: {a}, y: {b}): {} { return x; }",
			"..................................1..."},
		{"fn f(x: {a}, y: {b}): {} { let p: {c} = x + 12 ; p; p = p * y + z; }",
			"........................................111100...4......466626660..."},
		// Parts ahead of what they are parts of: blanks, signs and parentheses in it are its own, those around it are not.
		{"fn f(x: {a}, y: {b}): {} { x - ( y * 3 ) = (( 4 )) ; }",
			"...........................13333322220333333330......."},
		{"fn f(x: {a}, y: {b}): {} { y + (x) + 7; y = ((y)) * (1); }",
			"...........................23333133330........22222220...."},
		// A call's own label is the function's, whatever its arguments are.
		{"fn f(x: {a}, y: {b}): {} { g( x + 1 , y ) ; none(x) ; f(g(y), 2) ; }",
			"...........................44411110444244...0000010...0044240000...."},
		// Names of what is made, set, or sent to are no expressions.
		{"fn f(x: {a}, y: {b}): {} sends x { x = 1; send x y; let x: {c} = 1; return f; }",
			".......................................0.........2...............0.........0..."},
		// An open let has what it is made of.
		{"fn f(x: {a}, y: {b}): {} { let p = x + y; p; p = 1; p; let p = 1; p; }",
			"...................................13332..3......0..3..........0..0..."},
	})
}

func TestLabelUnder(t *testing.T) {
	const ahead = "fn g(p: {a}): {c} { }\n"
	hears(t, ahead, []row{
		{"fn f(x: {a}, y: {b}): {} { if x { z; y = 2; if y { z; } else { x; } } else { f(z, 5); } z; }",
			"..............................1...1......1.....3...3...........3.............1111111....0..."},
		// The condition of an if is under what the if is; that of a while is under itself too.
		{"fn f(x: {a}, y: {b}): {} { if x < 1 { z; } while x < 1 { z; } z; }",
			"..............................11110...1..........11111...1....0..."},
		{"fn f(x: {a}, y: {b}): {} { if g(1) + 2 { z; } while g(1) + 2 { z; } while 1 + f(2) { z; } }",
			"..............................44044440...4..........44444444...4..........00000000...0....."},
		{"fn f(x: {a}, y: {b}): {} { if x { while 1 + y { z; } while 1 { if y { z; } } } z; }",
			"..............................1.........33333...3..........1......3...3........0..."},
		// An open let has what it is under.
		{"fn f(x: {a}, y: {b}): {} { if x { let p = y; p; let q: {} = y; q; } while y { let p = 1; p; } }",
			"..............................1...........3..3..............3..1..........2...........2..2....."},
	})
}

// Of what is broken what could be read is told; where nothing could be, nothing stands.
func TestLabelBroken(t *testing.T) {
	hears(t, "", []row{
		{"fn f(x: {a}): {} { return x + ; return ; if { x",
			"..........................1111................1"},
		{"fn f(x: {a}): {} { f(x, f( ; }",
			"...................00100000..."},
		{"fn f(x: {a}): {} { let = x; let y x; y",
			".........................1........1..1"},
		{"f(x: {a}): {} { return x; }",
			"..........................."},
		{"chan c: {a};",
			"............"},
		{"chan c: {a} { return c; }",
			"........................."},
	})
}

func TestLabelOfNone(t *testing.T) {
	f := read(t, "fn f(x: {a}): {a} { return x; }\nchan c: {a};\nfn g(y: {b}): {b} { return y; }")
	for _, i := range []int{-1, 1, 3, 99, math.MinInt, math.MaxInt} {
		for at := -3; at < 40; at++ {
			if n, ok := Label(f, i, at); n != 0 || ok {
				t.Errorf("at byte %d of item %d stands %d, %v", at, i, n, ok)
			}
		}
		if got := Diags(f, i); len(got) != 0 {
			t.Errorf("of item %d is wrong %v", i, got)
		}
	}
	for _, at := range []int{-1, -28, 26, 28, 31, 99, math.MinInt, math.MaxInt} {
		for i := range f.Items {
			if n, ok := Label(f, i, at); n != 0 || ok {
				t.Errorf("at byte %d of item %d stands %d, %v", at, i, n, ok)
			}
		}
	}
	// Bytes are those of the item, wherever it stands.
	for i, want := range []int{1, 0, 2} {
		if n, ok := Label(f, i, 27); n != want || ok != (want > 0) {
			t.Errorf("at byte 27 of item %d stands %d, %v", i, n, ok)
		}
	}
	for _, none := range []api.File{{}, {Items: []api.Item{}}} {
		for _, i := range []int{-1, 0, 1, math.MinInt, math.MaxInt} {
			if n, ok := Label(none, i, 0); n != 0 || ok || len(Diags(none, i)) != 0 {
				t.Errorf("of item %d of none is told %d, %v, %v", i, n, ok, Diags(none, i))
			}
		}
		if !Sound(none) || len(Floors(none)) != 0 {
			t.Errorf("of none is told %v, %v", Sound(none), Floors(none))
		}
	}
}
