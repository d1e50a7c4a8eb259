// Package shape reckons shapes: see DOC.md, chapter 1.
package shape

import (
	"slices"

	"backstitch/api"
)

// May tells whether s may be a shape.
func May(s []int) bool {
	_, e := Size(s)
	return e == api.OK
}

// Size answers how many numbers a tensor of shape s has.
func Size(s []int) (int, api.Errno) {
	if len(s) > api.MaxDims || !everywhere(len(s), dims(s).positive) {
		return 0, api.ErrShape
	}
	return dims(s).product()
}

// Strides answers how far apart neighbours of each place stand in a row.
func Strides(s []int) []int {
	if !May(s) {
		return nil
	}
	steps := make([]int, len(s))
	step := 1
	for k := len(s) - 1; k >= 0; k-- {
		steps[k] = step
		step *= s[k]
	}
	return steps
}

// Same tells whether a and b have the same numbers, be they shapes or not.
func Same(a, b []int) bool {
	return slices.Equal(a, b)
}

// Spread answers the shape to which both a and b are broadcast.
func Spread(a, b []int) ([]int, api.Errno) {
	if !May(a) || !May(b) {
		return nil, api.ErrShape
	}
	p := pair{a, b}
	n := max(len(a), len(b))
	if !everywhere(n, p.agree) {
		return nil, api.ErrShape
	}
	joined := make([]int, n)
	for k := range n {
		joined[n-1-k] = p.joined(k)
	}
	if _, e := Size(joined); e != api.OK {
		return nil, e
	}
	return joined, api.OK
}

// Into tells whether a is broadcast to b just as b is.
func Into(a, b []int) bool {
	s, e := Spread(a, b)
	return e == api.OK && Same(s, b)
}

// Index answers where the number at that place of shape s stands in the row, or -1.
func Index(s, at []int) int {
	if !May(s) || len(at) != len(s) || !everywhere(len(s), spot{s, at}.inside) {
		return -1
	}
	i := 0
	for k, step := range Strides(s) {
		i += at[k] * step
	}
	return i
}

// Place answers the place of shape s whose number stands at i in the row.
func Place(s []int, i int) []int {
	size, e := Size(s)
	if e != api.OK || i < 0 || i >= size {
		return nil
	}
	at := make([]int, len(s))
	for k, step := range Strides(s) {
		at[k] = i / step
		i %= step
	}
	return at
}
