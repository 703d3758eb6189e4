package early

// rules is a list of rules for things of a kind: each tells whether a thing breaks
// it.
type rules[X any] []func(x X) bool

// broken tells whether x breaks one of them.
func (r rules[X]) broken(x X) bool {
	for _, rule := range r {
		if rule(x) {
			return true
		}
	}
	return false
}
