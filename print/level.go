package print

import (
	"cmp"

	"boomerang/api"
)

// level is what a part of 8.2 is; what is of a greater one binds more, and is a
// part of each level below, too.
type level int

const (
	levelE level = iota
	levelC
	levelO
	levelA
	levelQ
	levelR
	levelS
	levelM
	levelU
	levelP
)

// isBelow tells whether what is of one level is none of what is asked for.
func isBelow[L cmp.Ordered](is, asked L) bool {
	return is < asked
}

// levelOf tells the greatest level that a node is of.
func levelOf(n api.Node) level {
	switch n.Kind {
	case api.NYield, api.NSet:
		return levelE
	case api.NCond:
		return levelC
	case api.NOr:
		return levelO
	case api.NAnd:
		return levelA
	case api.NBinary:
		return levelOfSign(n.Text)
	case api.NUnary:
		return levelU
	}
	return levelP
}

// levelOfSign tells the level of an NBinary.
func levelOfSign(sign string) level {
	switch sign {
	case "===", "!==":
		return levelQ
	case "<", "<=", ">", ">=":
		return levelR
	case "+", "-":
		return levelS
	}
	return levelM
}
