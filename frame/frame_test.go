package frame

import (
	"fmt"
	"math"
	"reflect"
	"strings"
	"testing"

	"undertone/api"
)

// fault has an error and where it is; `-` is none.
func fault(f api.Fault) string {
	if f == (api.Fault{}) {
		return "-"
	}
	return fmt.Sprint(f.Err, " at ", f.At)
}

// plain copies questions, so that lists without entries are nil.
func plain(l []api.Ask) []api.Ask {
	var out []api.Ask
	for _, a := range l {
		a.Args = append([]int(nil), a.Args...)
		out = append(out, a)
	}
	return out
}

func same(a, b []api.Ask) bool { return reflect.DeepEqual(plain(a), plain(b)) }

// long has a text of so many bytes.
func long(n int) string { return strings.Repeat("x", n) }

func TestWrong(t *testing.T) {
	for kind := api.AskOpen; kind <= api.AskText; kind++ {
		for _, c := range []struct {
			args, text int
			want       api.Errno
		}{
			{0, 0, api.OK},
			{api.MaxParams, api.MaxText, api.OK},
			{api.MaxParams + 1, 0, api.ErrMany},
			{0, api.MaxText + 1, api.ErrMuch},
			// Args are asked ahead of Text.
			{api.MaxParams + 1, api.MaxText + 1, api.ErrMany},
			{100, 100000, api.ErrMany},
		} {
			for _, n := range []int{0, -1, 7, math.MaxInt, math.MinInt} {
				a := api.Ask{ID: n, Kind: kind, From: n, To: -n, Text: long(c.text), Args: make([]int, c.args)}
				if got := Wrong(a); got != c.want {
					t.Errorf("of kind %d, with %d Args and %d bytes of Text, is told %d, not %d", kind, c.args, c.text, got, c.want)
				}
			}
		}
	}
}

func TestWrongKind(t *testing.T) {
	for _, kind := range []int{0, -1, 10, 11, 256 + api.AskRun, math.MaxInt, math.MinInt} {
		for _, a := range []api.Ask{{}, {ID: 1, Text: "f", Args: []int{1}}, {Args: make([]int, api.MaxParams+1), Text: long(api.MaxText + 1)}} {
			a.Kind = kind
			if got := Wrong(a); got != api.ErrKind {
				t.Errorf("of kind %d is told %d", kind, got)
			}
		}
	}
}

// What MaxText counts are bytes, whatever they are.
func TestWrongCountsBytes(t *testing.T) {
	for _, c := range []struct {
		part string
		many int
		want api.Errno
	}{
		{"ä", api.MaxText / 2, api.OK},
		{"ä", api.MaxText/2 + 1, api.ErrMuch},
		{"\x00", api.MaxText, api.OK},
		{"\xff", api.MaxText, api.OK},
		{"\xff", api.MaxText + 1, api.ErrMuch},
		{"\n", api.MaxText, api.OK},
		{"\n", api.MaxText + 1, api.ErrMuch},
	} {
		if got := Wrong(api.Ask{Kind: api.AskText, Text: strings.Repeat(c.part, c.many)}); got != c.want {
			t.Errorf("of %d times %q is told %d, not %d", c.many, c.part, got, c.want)
		}
	}
}

type pair struct {
	l []api.Ask
	s string
}

// pairs has questions, and the bytes that they are.
func pairs() []pair {
	return []pair{
		{nil, ""},
		// The document's own.
		{[]api.Ask{{ID: 7, Kind: api.AskRun, Args: []int{-3}, Text: "f"}}, "7 8 0 0 1 1\n-3\nf"},
		// Each kind, with what it has.
		{[]api.Ask{{ID: 1, Kind: api.AskOpen, Text: "chan c: {a};\n"}}, "1 1 0 0 0 13\nchan c: {a};\n"},
		{[]api.Ask{{ID: 2, Kind: api.AskEdit, From: 8, To: 9, Text: "a,b"}}, "2 2 8 9 0 3\na,b"},
		{[]api.Ask{{ID: 3, Kind: api.AskDiags}}, "3 3 0 0 0 0\n"},
		{[]api.Ask{{ID: 4, Kind: api.AskHover, From: 12}}, "4 4 12 0 0 0\n"},
		{[]api.Ask{{ID: 5, Kind: api.AskDef, From: 130}}, "5 5 130 0 0 0\n"},
		{[]api.Ask{{ID: 6, Kind: api.AskRename, From: 13, Text: "zed"}}, "6 6 13 0 0 3\nzed"},
		{[]api.Ask{{ID: 7, Kind: api.AskLabels}}, "7 7 0 0 0 0\n"},
		{[]api.Ask{{ID: 8, Kind: api.AskRun, Args: []int{1, 2, 3, 4, 5}, Text: "g"}}, "8 8 0 0 5 1\n1\n2\n3\n4\n5\ng"},
		{[]api.Ask{{ID: 9, Kind: api.AskText}}, "9 9 0 0 0 0\n"},
		// What a kind has not is written as well.
		{[]api.Ask{{Kind: api.AskDiags, From: 1, To: 2, Args: []int{0, -1}, Text: "abcd"}}, "0 3 1 2 2 4\n0\n-1\nabcd"},
		// Numbers of many sizes.
		{[]api.Ask{{ID: -10, Kind: api.AskText, From: 10, To: -9, Args: []int{0, 100, -100}}}, "-10 9 10 -9 3 0\n0\n100\n-100\n"},
		{[]api.Ask{{ID: math.MaxInt64, Kind: 1, From: math.MinInt64, To: math.MaxInt64, Args: []int{math.MinInt64, math.MaxInt64}}},
			"9223372036854775807 1 -9223372036854775808 9223372036854775807 2 0\n-9223372036854775808\n9223372036854775807\n"},
		// Texts that look like numbers, lines or questions, and ones of any bytes.
		{[]api.Ask{{ID: 1, Kind: 1, Text: "1 1 0 0 0 0\n"}}, "1 1 0 0 0 12\n1 1 0 0 0 0\n"},
		{[]api.Ask{{ID: 1, Kind: 1, Args: []int{5}, Text: "6\n"}}, "1 1 0 0 1 2\n5\n6\n"},
		{[]api.Ask{{ID: 1, Kind: 1, Text: "\n"}}, "1 1 0 0 0 1\n\n"},
		{[]api.Ask{{ID: 1, Kind: 1, Text: " \n"}}, "1 1 0 0 0 2\n \n"},
		{[]api.Ask{{ID: 1, Kind: 1, Text: "\x00\xff\xc3\r"}}, "1 1 0 0 0 4\n\x00\xff\xc3\r"},
		{[]api.Ask{{ID: 1, Kind: 1, Text: "ä"}}, "1 1 0 0 0 2\nä"},
		// As much as there may be.
		{[]api.Ask{{ID: 1, Kind: 2, Args: []int{1, 2, 3, 4, 5}, Text: long(4000)}}, "1 2 0 0 5 4000\n1\n2\n3\n4\n5\n" + long(4000)},
		// One behind the other, under whatever numbers.
		{[]api.Ask{{ID: 1, Kind: 9}, {ID: 1, Kind: 9}}, "1 9 0 0 0 0\n1 9 0 0 0 0\n"},
		{[]api.Ask{{ID: 5, Kind: 1, Text: "ab"}, {ID: 3, Kind: 2, From: 1, To: 1}, {ID: -4, Kind: 8, Args: []int{6}, Text: "17"}, {ID: 8, Kind: 3}},
			"5 1 0 0 0 2\nab3 2 1 1 0 0\n-4 8 0 0 1 2\n6\n178 3 0 0 0 0\n"},
	}
}

func TestBytes(t *testing.T) {
	for _, c := range pairs() {
		if got, f := Bytes(c.l); string(got) != c.s || f != (api.Fault{}) {
			t.Errorf("of %v comes %q, %s, not %q", c.l, got, fault(f), c.s)
		}
	}
}

func TestParse(t *testing.T) {
	for _, c := range pairs() {
		if got, f := Parse([]byte(c.s)); !same(got, c.l) || f != (api.Fault{}) {
			t.Errorf("of %q comes %v, %s, not %v", c.s, got, fault(f), c.l)
		}
	}
}

// More questions than may be asked at once are written and read.
func TestManyAsks(t *testing.T) {
	for _, n := range []int{api.MaxAsks, api.MaxAsks + 1, 5000} {
		l := make([]api.Ask, n)
		for i := range l {
			l[i] = api.Ask{ID: i, Kind: 1 + i%9, Args: make([]int, i%6), Text: long(i % 7)}
		}
		b, f := Bytes(l)
		if f != (api.Fault{}) {
			t.Fatalf("of %d is told %s", n, fault(f))
		}
		if got, f := Parse(b); !same(got, l) || f != (api.Fault{}) {
			t.Errorf("of %d come %d, %s", n, len(got), fault(f))
		}
	}
}

func TestBytesOfWrong(t *testing.T) {
	good := api.Ask{ID: 1, Kind: api.AskRun, Text: "f", Args: []int{1}}
	kind := api.Ask{Kind: 10, Args: make([]int, 6), Text: long(4001)}
	many := api.Ask{Kind: 1, Args: make([]int, 6), Text: long(4001)}
	much := api.Ask{Kind: 9, Args: make([]int, 5), Text: long(4001)}
	for _, c := range []struct {
		l    []api.Ask
		want string
	}{
		{[]api.Ask{{}}, "1 at 0"},
		{[]api.Ask{kind}, "1 at 0"},
		{[]api.Ask{many}, "5 at 0"},
		{[]api.Ask{much}, "4 at 0"},
		{[]api.Ask{good, kind}, "1 at 1"},
		{[]api.Ask{good, good, many}, "5 at 2"},
		{[]api.Ask{good, good, good, much, good}, "4 at 3"},
		// The first one is told, not the first error.
		{[]api.Ask{good, much, many, kind}, "4 at 1"},
		{[]api.Ask{good, many, kind, much}, "5 at 1"},
		{[]api.Ask{kind, much, many}, "1 at 0"},
	} {
		if b, f := Bytes(c.l); fault(f) != c.want || len(b) != 0 {
			t.Errorf("of %d questions come %d bytes, %s, not %s", len(c.l), len(b), fault(f), c.want)
		}
	}
}

type row struct{ s, want string }

// tells holds what is told of bytes against rows; of a fault nothing else comes.
func tells(t *testing.T, ahead string, rows []row) {
	t.Helper()
	for _, c := range rows {
		l, f := Parse([]byte(ahead + c.s))
		if fault(f) != c.want || (f != (api.Fault{}) && len(l) != 0) {
			t.Errorf("of %.60q comes %d, %s, not %s", ahead+c.s, len(l), fault(f), c.want)
		}
	}
}

// Numbers are written in one way alone.
func TestNumbersOtherwise(t *testing.T) {
	for _, n := range []string{"", "-", "+1", "-0", "+0", "00", "01", "-01", "007", " 1", "1 ", "\t1", "1\r", "\n1", "1_0", "0x1", "1e3", "1.0", "1,", "--1", "1-", "- 1", "?", "x", "٣", "1\x00",
		"9223372036854775808", "-9223372036854775809", "18446744073709551617", "99999999999999999999999", "-99999999999999999999999"} {
		for at := range 6 {
			head := []string{"1", "1", "0", "0", "1", "1"}
			head[at] = n
			tells(t, "", []row{{strings.Join(head, " ") + "\n1\n1\n1\n1\n1\n1\nxxxxxx", "2 at 0"}})
		}
		tells(t, "", []row{{"1 1 0 0 1 1\n" + n + "\nxxx", "2 at 0"}, {"1 1 0 0 3 1\n1\n" + n + "\n2\nxxx", "2 at 0"}})
	}
}

func TestNotSoWritten(t *testing.T) {
	rows := []row{
		{"x", "2 at 0"}, {"\n", "2 at 0"}, {" ", "2 at 0"}, {"\x00", "2 at 0"}, {"1", "2 at 0"}, {"1\n", "2 at 0"},
		// Signs between.
		{"1  1 0 0 0 0\n", "2 at 0"}, {" 1 1 0 0 0 0\n", "2 at 0"}, {"1 1 0 0 0 0 \n", "2 at 0"}, {"1 1 0 0 0 0\r\n", "2 at 0"},
		{"1\t1 0 0 0 0\n", "2 at 0"}, {"1,1 0 0 0 0\n", "2 at 0"}, {"1\n1 0 0 0 0\n", "2 at 0"}, {"1 1 0 0 0\n0\n", "2 at 0"},
		{"1 1 0 0 0 0 ", "2 at 0"}, {"1 1 0 0 0 0\x00", "2 at 0"},
		// Numbers too many and too few.
		{"1 1 0 0 0\n", "2 at 0"}, {"1 1 0 0 0 0 0\n", "2 at 0"}, {"1 1 0 0 0\n1 1 0 0 0 0\n", "2 at 0"},
		// No such counts.
		{"1 1 0 0 -1 0\n", "2 at 0"}, {"1 1 0 0 0 -1\n", "2 at 0"}, {"1 1 0 0 -1 0\n1\n", "2 at 0"},
		{"1 1 0 0 -9223372036854775808 0\n", "2 at 0"}, {"1 1 0 0 0 -9223372036854775808\n", "2 at 0"},
		// Args.
		{"1 1 0 0 1 0\n", "2 at 0"}, {"1 1 0 0 1 0\n\n", "2 at 0"}, {"1 1 0 0 1 0\n5", "2 at 0"}, {"1 1 0 0 1 0\n5 ", "2 at 0"}, {"1 1 0 0 2 0\n5 6\n", "2 at 0"},
		{"1 1 0 0 2 0\n5\n", "2 at 0"}, {"1 1 0 0 2 0\n5\n6", "2 at 0"}, {"1 1 0 0 2 0\n5\n\n6\n", "2 at 0"}, {"1 1 0 0 1 1\n5x", "2 at 0"},
		// Text.
		{"1 1 0 0 0 1\n", "2 at 0"}, {"1 1 0 0 0 3\nab", "2 at 0"}, {"1 1 0 0 1 3\n5\nab", "2 at 0"},
		{"1 1 0 0 0 9223372036854775807\nab", "2 at 0"}, {"1 1 0 0 1 9223372036854775807\n5\n", "2 at 0"}, {"1 1 0 0 0 9223372036854775795\nab", "2 at 0"},
	}
	tells(t, "", rows)
	// Behind another question it is told where it begins.
	for i := range rows {
		rows[i].want = "2 at 17"
	}
	tells(t, "-4 8 0 0 1 2\n6\n17", rows)
}

func TestPiecesBehind(t *testing.T) {
	tells(t, "", []row{
		{"1 1 0 0 0 0\n?", "2 at 12"}, {"1 1 0 0 0 0\n\n", "2 at 12"}, {"1 1 0 0 0 0\n ", "2 at 12"}, {"1 1 0 0 0 2\nabc", "2 at 14"},
		{"1 1 0 0 0 2\nab\n1 9 0 0 0 0\n", "2 at 14"}, {"1 1 0 0 1 0\n5\n\n", "2 at 14"}, {"1 1 0 0 1 0\n5\n6\n", "2 at 14"},
		{"1 1 0 0 0 0\n1 1 0 0 0 0\n1 1 0 0 0 0", "2 at 24"},
		// A text that is shorter than is told takes from what is behind.
		{"1 1 0 0 0 3\nab1 9 0 0 0 0\n", "2 at 15"}, {"1 1 0 0 0 14\nab1 9 0 0 0 0\n", "-"}, {"1 1 0 0 0 15\nab1 9 0 0 0 0\n", "2 at 0"},
	})
}

// six is as many lines as are read of Args that are too many.
const six = "1\n2\n3\n4\n5\n6\n"

func TestWrongOnes(t *testing.T) {
	rows := []row{
		{"1 0 0 0 0 0\n", "1 at 0"}, {"1 10 0 0 0 0\n", "1 at 0"}, {"1 99 0 0 0 0\n", "1 at 0"}, {"1 -1 0 0 0 0\n", "1 at 0"},
		{"1 9223372036854775807 0 0 0 0\n", "1 at 0"}, {"1 -9223372036854775808 0 0 0 0\n", "1 at 0"}, {"0 0 0 0 0 0\n", "1 at 0"},
		{"1 1 0 0 5 0\n1\n2\n3\n4\n5\n", "-"}, {"1 1 0 0 6 0\n" + six, "5 at 0"},
		{"1 1 0 0 0 4000\n" + long(4000), "-"}, {"1 1 0 0 0 4001\n" + long(4001), "4 at 0"}, {"1 1 0 0 0 100000\n" + long(100000), "4 at 0"},
		// Several of them: kind, Args, Text.
		{"1 0 0 0 6 4001\n" + six + long(4001), "1 at 0"}, {"1 1 0 0 6 4001\n" + six + long(4001), "5 at 0"}, {"1 0 0 0 0 4001\n" + long(4001), "1 at 0"}, {"1 0 0 0 6 0\n" + six, "1 at 0"},
		// But how it is written is asked ahead of all these.
		{"1 0 0 0 0 1\n", "2 at 0"}, {"1 0 0 0 1 0\n", "2 at 0"}, {"1 0 0 0 0 -1\n", "2 at 0"}, {"1 0 0 0 0 00\n", "2 at 0"}, {"1 99 0 0 0 4001\n" + long(4000), "2 at 0"},
		{"1 1 0 0 0 4001\n" + long(4000), "2 at 0"}, {"1 1 0 0 6 0\n1\n2\n3\n4\n5\n", "2 at 0"}, {"1 1 0 0 6 0\n1\n2\n3\n4\n5\n6", "2 at 0"}, {"1 1 0 0 6 1\n" + six, "2 at 0"},
		{"1 1 0 0 6 0\n1\n2\n3\n4\n5\n06\n", "2 at 0"}, {"1 1 0 0 6 0\n1\n2\n?\n4\n5\n6\n", "2 at 0"},
	}
	tells(t, "", rows)
	for i := range rows {
		rows[i].want = strings.Replace(rows[i].want, " at 0", " at 17", 1)
	}
	tells(t, "-4 8 0 0 1 2\n6\n17", rows)
}

// Of Args that are too many just one more is read: what stands behind that one is Text, or nothing that counts.
func TestOneMore(t *testing.T) {
	tells(t, "", []row{
		{"1 1 0 0 7 0\n" + six, "5 at 0"}, {"1 1 0 0 7 0\n" + six + "7\n", "5 at 0"}, {"1 1 0 0 7 0\n" + six + "?", "5 at 0"}, {"1 1 0 0 7 0\n" + six + "07\n", "5 at 0"},
		{"1 1 0 0 9223372036854775807 0\n" + six, "5 at 0"}, {"1 1 0 0 1000000 2\n" + six + "ab", "5 at 0"},
		{"1 1 0 0 7 0\n1\n2\n3\n4\n5\n", "2 at 0"}, {"1 1 0 0 9223372036854775807 0\n1\n2\n3\n4\n5\n", "2 at 0"}, {"1 1 0 0 7 0\n1\n2\n3\n4\n5\n6", "2 at 0"}, {"1 1 0 0 7 0\n1\n2\n3\n4\n5\n-0\n", "2 at 0"},
		{"1 1 0 0 7 1\n" + six, "2 at 0"}, {"1 1 0 0 7 2\n" + six + "7\n", "5 at 0"}, {"1 1 0 0 7 3\n" + six + "7\n", "2 at 0"},
		{"1 0 0 0 7 0\n" + six, "1 at 0"}, {"1 1 0 0 7 4001\n" + six + long(4001), "5 at 0"},
	})
}

// The first question with something wrong is told, whatever is behind.
func TestFirstIsTold(t *testing.T) {
	kind, many, much, form := "1 0 0 0 0 0\n", "1 1 0 0 6 0\n"+six, "1 1 0 0 0 4001\n"+long(4001), "1 1 0 0 0 -1\n"
	good := "1 1 0 0 0 0\n"
	tells(t, good, []row{
		{kind + many + much + form, "1 at 12"}, {many + much + form + kind, "5 at 12"}, {much + form + kind + many, "4 at 12"}, {form + kind + many + much, "2 at 12"},
		{good + kind + form, "1 at 24"}, {good + good + many + form, "5 at 36"}, {good + much, "4 at 24"}, {good + good + form, "2 at 36"},
	})
}

// What ends too soon is as many questions as are whole, if it ends with them; else a fault is where the next one begins.
func TestEndsTooSoon(t *testing.T) {
	for _, c := range pairs() {
		ends := map[int]int{0: 0}
		for k := range c.l {
			b, _ := Bytes(c.l[:k+1])
			ends[len(b)] = k + 1
		}
		from := 0
		for k := range len(c.s) + 1 {
			l, f := Parse([]byte(c.s[:k]))
			want := fmt.Sprint("2 at ", from)
			n, whole := ends[k]
			if whole {
				want, from = "-", k
			}
			if fault(f) != want || !same(l, c.l[:n]) {
				t.Errorf("of %.60q comes %v, %s, not %s", c.s[:k], l, fault(f), want)
			}
		}
	}
}
