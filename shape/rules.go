package shape

import "backstitch/api"

// everywhere tells whether a rule holds at each of n places.
func everywhere(n int, rule func(k int) bool) bool {
	for k := range n {
		if !rule(k) {
			return false
		}
	}
	return true
}

// dims is a shape by value.
type dims []int

func (d dims) positive(k int) bool { return d[k] >= 1 }

// product wants positive numbers. It divides before it multiplies, since the whole product may not fit an int.
func (d dims) product() (int, api.Errno) {
	p := 1
	for _, n := range d {
		if n > api.MaxSize/p {
			return 0, api.ErrSize
		}
		p *= n
	}
	return p, api.OK
}

// fromEnd answers the k-th number from the end. Where there is none it is 1, so that a number without a partner stays as it is.
func (d dims) fromEnd(k int) int {
	if k >= len(d) {
		return 1
	}
	return d[len(d)-1-k]
}

// pair is two shapes aligned at their ends; its places are counted from there.
type pair struct{ a, b dims }

func (p pair) agree(k int) bool {
	x, y := p.a.fromEnd(k), p.b.fromEnd(k)
	return x == y || x == 1 || y == 1
}

// joined wants a place where both agree: the greater number is then the one that is not 1, or both.
func (p pair) joined(k int) int { return max(p.a.fromEnd(k), p.b.fromEnd(k)) }

// spot is a place in a shape, with as many numbers.
type spot struct{ s, at dims }

func (p spot) inside(k int) bool { return p.at[k] >= 0 && p.at[k] < p.s[k] }
