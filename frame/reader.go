package frame

import (
	"bytes"
	"strconv"

	"undertone/api"
)

// reader goes through bytes; false answers whoever asks it for what does not stand there.
type reader struct {
	b  []byte
	at int
}

func (r *reader) ask() (api.Ask, bool) {
	var a api.Ask
	var args, size int
	ok := r.line(&a.ID, &a.Kind, &a.From, &a.To, &args, &size)
	if ok {
		a.Args, ok = r.args(args)
	}
	if ok {
		a.Text, ok = r.text(size)
	}
	return a, ok
}

// line reads numbers, with a blank between and a line feed behind.
func (r *reader) line(numbers ...*int) bool {
	for i, n := range numbers {
		end := byte(' ')
		if i == len(numbers)-1 {
			end = '\n'
		}
		if !r.number(n, end) {
			return false
		}
	}
	return true
}

// number reads a number, and end behind it. What would be written otherwise is none.
func (r *reader) number(n *int, end byte) bool {
	size := bytes.IndexByte(r.b[r.at:], end)
	if size < 0 {
		return false
	}
	s := string(r.b[r.at : r.at+size])
	r.at += size + 1
	var err error
	*n, err = strconv.Atoi(s)
	return err == nil && strconv.Itoa(*n) == s
}

// args reads numbers, each on a line of its own: no more than it takes to tell that they are too many.
func (r *reader) args(many int) ([]int, bool) {
	l := make([]int, max(0, min(many, api.MaxParams+1)))
	for i := range l {
		if !r.line(&l[i]) {
			return nil, false
		}
	}
	return l, many >= 0
}

func (r *reader) text(size int) (string, bool) {
	if size < 0 || size > len(r.b)-r.at {
		return "", false
	}
	from := r.at
	r.at += size
	return string(r.b[from:r.at]), true
}
