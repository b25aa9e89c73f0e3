package label

import (
	"math"
	"regexp"
	"strings"
	"testing"

	"undertone/api"
)

const letters = "abcdefgh"

// set is a label as the document speaks of it, built without the package's own means.
func set(n int) map[byte]bool {
	out := map[byte]bool{}
	for i := range letters {
		if n%2 == 1 {
			out[letters[i]] = true
		}
		n /= 2
	}
	return out
}

// text is how a set must be printed.
func text(m map[byte]bool) string {
	var l []string
	for i := range letters {
		if m[letters[i]] {
			l = append(l, letters[i:i+1])
		}
	}
	return "{" + strings.Join(l, ",") + "}"
}

func TestRight(t *testing.T) {
	for n := -1000; n <= 1000; n++ {
		if got, want := Right(n), n >= 0 && n < 256; got != want {
			t.Errorf("Right(%d) is %v, not %v", n, got, want)
		}
	}
	for _, n := range []int{math.MinInt, math.MinInt + 1, -256, -255, math.MaxInt - 1, math.MaxInt, 1 << 32, 1<<32 + 5} {
		if Right(n) {
			t.Errorf("Right(%d) is true", n)
		}
	}
}

func TestPairs(t *testing.T) {
	for a := range 256 {
		for b := range 256 {
			pair(t, a, b)
		}
	}
}

func pair(t *testing.T, a, b int) {
	t.Helper()
	x, y := set(a), set(b)
	one, both, flows := 0, 0, true
	for i := range letters {
		c := letters[i]
		if x[c] || y[c] {
			one += 1 << i
		}
		if x[c] && y[c] {
			both += 1 << i
		}
		flows = flows && (!x[c] || y[c])
	}
	if got := Join(a, b); got != one {
		t.Errorf("Join(%d, %d) is %d, not %d", a, b, got, one)
	}
	if got := Meet(a, b); got != both {
		t.Errorf("Meet(%d, %d) is %d, not %d", a, b, got, both)
	}
	if got := Flows(a, b); got != flows {
		t.Errorf("Flows(%d, %d) is %v, not %v", a, b, got, flows)
	}
}

// Join is the least label above both, Meet the greatest one below both.
func TestOrder(t *testing.T) {
	some := []int{0, 1, 2, 3, 5, 64, 127, 128, 129, 200, 254, api.Top}
	for _, a := range some {
		if !Flows(0, a) || !Flows(a, api.Top) || !Flows(a, a) {
			t.Errorf("%d does not stand between 0 and Top", a)
		}
		for _, b := range some {
			if Flows(a, b) && Flows(b, a) != (a == b) {
				t.Errorf("%d and %d flow to each other", a, b)
			}
			for c := range 256 {
				if (Flows(a, c) && Flows(b, c)) != Flows(Join(a, b), c) {
					t.Errorf("Join(%d, %d) is not the least: %d", a, b, c)
				}
				if (Flows(c, a) && Flows(c, b)) != Flows(c, Meet(a, b)) {
					t.Errorf("Meet(%d, %d) is not the greatest: %d", a, b, c)
				}
			}
		}
	}
}

func TestCountAndPrint(t *testing.T) {
	for n := range 256 {
		if got, want := Count(n), len(set(n)); got != want {
			t.Errorf("Count(%d) is %d, not %d", n, got, want)
		}
		if got, want := Print(n), text(set(n)); got != want {
			t.Errorf("Print(%d) is %q, not %q", n, got, want)
		}
		if back, err := Parse(Print(n)); back != n || err != api.OK {
			t.Errorf("Parse(Print(%d)) is %d, %d", n, back, err)
		}
	}
}

func TestPrintEdges(t *testing.T) {
	for n, want := range map[int]string{0: "{}", 1: "{a}", 5: "{a,c}", 128: "{h}", 200: "{d,g,h}", api.Top: "{a,b,c,d,e,f,g,h}"} {
		if got := Print(n); got != want {
			t.Errorf("Print(%d) is %q, not %q", n, got, want)
		}
	}
}

func TestParse(t *testing.T) {
	for _, c := range []struct {
		s   string
		n   int
		err api.Errno
	}{
		{"{}", 0, api.OK},
		{"{a}", 1, api.OK},
		{"{h}", 128, api.OK},
		{"{a,c}", 5, api.OK},
		{"{c,a}", 5, api.OK},
		{"{a,b,c,d,e,f,g,h}", api.Top, api.OK},
		{"{h,g,f,e,d,c,b,a}", api.Top, api.OK},
		{"", 0, api.ErrForm},
		{"{", 0, api.ErrForm},
		{"}", 0, api.ErrForm},
		{"}{", 0, api.ErrForm},
		{"{{}", 0, api.ErrForm},
		{"{}}", 0, api.ErrForm},
		{"{}{}", 0, api.ErrForm},
		{"a", 0, api.ErrForm},
		{"a,b", 0, api.ErrForm},
		{"{a", 0, api.ErrForm},
		{"a}", 0, api.ErrForm},
		{"{,}", 0, api.ErrForm},
		{"{a,}", 0, api.ErrForm},
		{"{,a}", 0, api.ErrForm},
		{"{a,,b}", 0, api.ErrForm},
		{"{ab}", 0, api.ErrForm},
		{"{a;b}", 0, api.ErrForm},
		{"{a,bc}", 0, api.ErrForm},
		{"{i}", 0, api.ErrForm},
		{"{`}", 0, api.ErrForm},
		{"{A}", 0, api.ErrForm},
		{"{1}", 0, api.ErrForm},
		{"{\x00}", 0, api.ErrForm},
		{"{\xff}", 0, api.ErrForm},
		{"{ä}", 0, api.ErrForm},
		{" {a}", 0, api.ErrForm},
		{"{a} ", 0, api.ErrForm},
		{"{ a}", 0, api.ErrForm},
		{"{a, b}", 0, api.ErrForm},
		{"{a}\n", 0, api.ErrForm},
		{"{a,a}", 0, api.ErrName},
		{"{h,h}", 0, api.ErrName},
		{"{b,a,b}", 0, api.ErrName},
		{"{a,b,c,d,e,f,g,h,a}", 0, api.ErrName},
		{"{a,a,}", 0, api.ErrForm},
		{"{a,a,i}", 0, api.ErrForm},
		{"{a,a", 0, api.ErrForm},
		{"{a,a};", 0, api.ErrForm},
	} {
		if n, err := Parse(c.s); n != c.n || err != c.err {
			t.Errorf("Parse(%q) is %d, %d, not %d, %d", c.s, n, err, c.n, c.err)
		}
	}
}

var labelText = regexp.MustCompile(`\A\{([a-h](,[a-h])*)?\}\z`)

// parsed is what Parse must tell, worked out in another way.
func parsed(s string) (int, api.Errno) {
	if !labelText.MatchString(s) {
		return 0, api.ErrForm
	}
	n := 0
	for i := range letters {
		switch strings.Count(s, letters[i:i+1]) {
		case 0:
		case 1:
			n += 1 << i
		default:
			return 0, api.ErrName
		}
	}
	return n, api.OK
}

// Every text of up to seven bytes of these is asked.
func TestParseShort(t *testing.T) {
	var ask func(s string)
	ask = func(s string) {
		n, err := Parse(s)
		if wantN, wantErr := parsed(s); n != wantN || err != wantErr {
			t.Errorf("Parse(%q) is %d, %d, not %d, %d", s, n, err, wantN, wantErr)
		}
		if len(s) == 7 {
			return
		}
		for _, c := range []string{"{", "}", ",", "a", "h", "i", " "} {
			ask(s + c)
		}
	}
	ask("")
}

func TestParseEachByte(t *testing.T) {
	for c := range 256 {
		for _, s := range []string{string([]byte{byte(c)}), "{" + string([]byte{byte(c)}) + "}", "{a" + string([]byte{byte(c)}) + "b}"} {
			n, err := Parse(s)
			if wantN, wantErr := parsed(s); n != wantN || err != wantErr {
				t.Errorf("Parse(%q) is %d, %d, not %d, %d", s, n, err, wantN, wantErr)
			}
		}
	}
}

func TestParseLong(t *testing.T) {
	many := "{" + strings.Repeat("a,", 100000) + "a"
	if n, err := Parse(many + "}"); n != 0 || err != api.ErrName {
		t.Errorf("a long text with a tag over and over is %d, %d", n, err)
	}
	if n, err := Parse(many); n != 0 || err != api.ErrForm {
		t.Errorf("a long text without its end is %d, %d", n, err)
	}
}

// Of numbers that are no label, calls answer, and tell labels.
func TestNoLabels(t *testing.T) {
	wrong := []int{math.MinInt, -256, -1, 256, 261, 1 << 40, math.MaxInt}
	for _, a := range wrong {
		if c := Count(a); c < 0 || c > api.Tags {
			t.Errorf("Count(%d) is %d", a, c)
		}
		if n, err := Parse(Print(a)); err != api.OK || Count(n) != Count(a) {
			t.Errorf("Print(%d) is %q", a, Print(a))
		}
		for _, b := range append(wrong, 0, 5, api.Top) {
			if !Right(Join(a, b)) || !Right(Meet(a, b)) {
				t.Errorf("Join and Meet of %d and %d are %d and %d", a, b, Join(a, b), Meet(a, b))
			}
			if Flows(a, b) != (Join(a, b) == Meet(b, b)) {
				t.Errorf("Flows(%d, %d) is %v", a, b, Flows(a, b))
			}
		}
	}
}
