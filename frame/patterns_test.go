package frame

import (
	"math/big"
	"regexp"
	"strings"

	"undertone/api"
)

// Here bytes are read by patterns, and numbers are held against how large they may be as numbers of any size.

const number = `(0|-?[1-9][0-9]*)`

var (
	head = regexp.MustCompile(`\A` + strings.Repeat(number+` `, 5) + number + `\n`)
	arg  = regexp.MustCompile(`\A` + number + `\n`)
)

// taken has the numbers at the beginning of s that p finds there, and what is behind; false: there are none, or they are too great.
func taken(p *regexp.Regexp, s string) ([]int, string, bool) {
	m := p.FindStringSubmatch(s)
	if m == nil {
		return nil, s, false
	}
	var l []int
	for _, part := range m[1:] {
		n, ok := new(big.Int).SetString(part, 10)
		if !ok || !n.IsInt64() {
			return nil, s, false
		}
		l = append(l, int(n.Int64()))
	}
	return l, s[len(m[0]):], true
}

// first has the question at the beginning of s, and what is behind it; false: it is none.
func first(s string) (api.Ask, string, bool) {
	n, s, ok := taken(head, s)
	if !ok || n[4] < 0 || n[5] < 0 {
		return api.Ask{}, s, false
	}
	a := api.Ask{ID: n[0], Kind: n[1], From: n[2], To: n[3]}
	for len(a.Args) < n[4] && len(a.Args) <= 5 {
		var one []int
		if one, s, ok = taken(arg, s); !ok {
			return api.Ask{}, s, false
		}
		a.Args = append(a.Args, one[0])
	}
	if len(s) < n[5] {
		return api.Ask{}, s, false
	}
	a.Text = s[:n[5]]
	return a, s[n[5]:], true
}

// wrongWith asks what is wrong from behind: what is told ahead of others is found last.
func wrongWith(a api.Ask) api.Errno {
	err := api.OK
	if len(a.Text) > 4000 {
		err = api.ErrMuch
	}
	if len(a.Args) > 5 {
		err = api.ErrMany
	}
	if !strings.Contains("123456789", string(rune('0'+max(-1, min(a.Kind, 10))))) {
		err = api.ErrKind
	}
	return err
}

// byPatterns has the questions that s is.
func byPatterns(s string) ([]api.Ask, api.Fault) {
	var l []api.Ask
	for rest := s; rest != ""; {
		a, behind, ok := first(rest)
		err := wrongWith(a)
		if !ok {
			err = api.ErrForm
		}
		if err != api.OK {
			return nil, api.Fault{Err: err, At: len(s) - len(rest)}
		}
		l, rest = append(l, a), behind
	}
	return l, api.Fault{}
}
