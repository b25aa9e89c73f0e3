package rename

import (
	"slices"
	"strings"

	"undertone/api"
)

// pieces are of one size, and stand at bytes of a text, rising.
type pieces struct {
	at   []int
	size int
}

// places has where it is made, and used, what is made at byte def. Uses come as they are asked of, not as they stand.
func places(uses []api.Use, def int) []int {
	out := []int{def}
	for _, u := range uses {
		if u.Def == def {
			out = append(out, u.From)
		}
	}
	slices.Sort(out)
	return out
}

// put has s, with name in the place of each of the pieces.
func (p pieces) put(s, name string) string {
	var b strings.Builder
	end := 0
	for _, at := range p.at {
		b.WriteString(s[end:at])
		b.WriteString(name)
		end = at + p.size
	}
	b.WriteString(s[end:])
	return b.String()
}

// mover tells where a byte of the text stands once each of the pieces has that size.
func (p pieces) mover(size int) func(at int) int {
	more := size - p.size
	return func(at int) int {
		ahead, _ := slices.BinarySearch(p.at, at)
		return at + ahead*more
	}
}

func same(is, was []api.Use, moved func(at int) int) bool {
	return slices.EqualFunc(is, was, func(i, w api.Use) bool {
		return i == api.Use{From: moved(w.From), To: moved(w.To), Def: moved(w.Def)}
	})
}
