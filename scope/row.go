package scope

// none is the number of a scope that there is not.
const none = -1

// scope has names of a kind, each with a place.
type scope[N comparable] struct {
	around int       // the scope around it, or none
	first  map[N]int // of each name the place, of two alike the first one's
	slots  int
}

// row is a row of scopes, each known by its number.
type row[N comparable] []scope[N]

// open puts a scope behind the others, and tells its number.
func (r *row[N]) open(around int) int {
	*r = append(*r, scope[N]{around: around, first: map[N]int{}})
	return len(*r) - 1
}

// add gives names the next places of a scope.
func (r row[N]) add(number int, names ...N) {
	s := &r[number]
	for _, name := range names {
		if _, has := s.first[name]; !has {
			s.first[name] = s.slots
		}
		s.slots++
	}
}

// find tells how many scopes are left, from one of them outward, up to the first
// that has a name, and the name's place there.
func (r row[N]) find(number int, name N) (depth, slot int, ok bool) {
	for number != none {
		if slot, ok := r[number].first[name]; ok {
			return depth, slot, true
		}
		number = r[number].around
		depth++
	}
	return 0, 0, false
}
