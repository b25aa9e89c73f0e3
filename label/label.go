// Package label has labels: see doc/01-label.md.
package label

import (
	"math/bits"

	"undertone/api"
)

// Right tells whether n is a label.
func Right(n int) bool { return n >= 0 && n <= api.Top }

// Flows tells whether all tags of a are b's.
func Flows(a, b int) bool { return tags(a)&^tags(b) == 0 }

// Join has the tags that a or b has.
func Join(a, b int) int { return tags(a) | tags(b) }

// Meet has the tags that both a and b have.
func Meet(a, b int) int { return tags(a) & tags(b) }

// Count tells how many tags n has.
func Count(n int) int { return bits.OnesCount(uint(tags(n))) }

// Print writes n as a text that Parse reads.
func Print(n int) string {
	out := []byte{'{'}
	for i := range api.Tags {
		if n>>i&1 == 0 {
			continue
		}
		if len(out) > 1 {
			out = append(out, ',')
		}
		out = append(out, 'a'+byte(i))
	}
	return string(append(out, '}'))
}

// Parse reads a label. The form of all of s is asked first, as a text that is no label and names a tag twice is told as ErrForm.
func Parse(s string) (int, api.Errno) {
	if !formed(s) {
		return 0, api.ErrForm
	}
	n := 0
	for i := 1; i < len(s)-1; i += 2 {
		tag := 1 << (s[i] - 'a')
		if n&tag != 0 {
			return 0, api.ErrName
		}
		n |= tag
	}
	return n, api.OK
}

// tags leaves out the bits that stand for no tag, so that a label comes of any number.
func tags(n int) int { return n & api.Top }

func formed(s string) bool {
	if len(s) < 2 || s[0] != '{' || s[len(s)-1] != '}' {
		return false
	}
	inner := s[1 : len(s)-1]
	if inner == "" {
		return true
	}
	for i := range len(inner) {
		if i%2 == 0 && !isTag(inner[i]) || i%2 == 1 && inner[i] != ',' {
			return false
		}
	}
	// Of an even length it would end with a comma.
	return len(inner)%2 == 1
}

func isTag(c byte) bool { return c >= 'a' && c < 'a'+api.Tags }
