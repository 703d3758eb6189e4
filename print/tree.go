package print

import (
	"slices"

	"boomerang/api"
)

// A program has at most so many nodes: each takes a byte of its own, but that an
// NExpr and an NDef lie around a node that does, and that the NAll takes none.
const maxNodes = 2*api.MaxText + 1

// isTree tells whether nodes stand as those of a program do, so that one comes to
// each of them once, and to no kid that there is not. Any others that are handed in
// could lead in rings, or so deep that no call came back.
func isTree(l []api.Node) bool {
	if len(l) == 0 || len(l) > maxNodes || l[len(l)-1].Kind != api.NAll {
		return false
	}
	var free []int // nodes that are no kids yet
	for place, n := range l {
		own := len(free) - len(n.Kids)
		if own < 0 || !slices.Equal(free[own:], n.Kids) || !hasItsKids(n) {
			return false
		}
		free = append(free[:own], place)
	}
	return len(free) == 1
}

// hasItsKids tells whether a node has as many kids as its kind asks for.
func hasItsKids(n api.Node) bool {
	kids := len(n.Kids)
	switch n.Kind {
	case api.NArr, api.NFun, api.NBlock, api.NAll:
		return true
	case api.NObj:
		return kids == len(n.Names)
	case api.NCall:
		return kids >= 1
	case api.NGet, api.NUnary, api.NYield, api.NLet, api.NConst, api.NDef, api.NExpr, api.NThrow:
		return kids == 1
	case api.NReturn:
		return kids <= 1
	case api.NAt, api.NBinary, api.NAnd, api.NOr, api.NSet, api.NWhile, api.NTry:
		return kids == 2
	case api.NIf:
		return kids == 2 || kids == 3
	case api.NCond:
		return kids == 3
	}
	return kids == 0
}
