package column

import "cmp"

// Stats is how many rows there are, the least and the greatest.
type Stats[T cmp.Ordered] struct {
	Rows        int
	Least, Most T
}

// Of: the stats of a column.
func Of[T cmp.Ordered](l []T) Stats[T] {
	if len(l) == 0 {
		return Stats[T]{}
	}
	s := Stats[T]{Rows: len(l), Least: l[0], Most: l[0]}
	// By cmp.Less, since that is an order of all floats: beside < a NaN would hide the others.
	for _, x := range l {
		if cmp.Less(x, s.Least) {
			s.Least = x
		}
		if cmp.Less(s.Most, x) {
			s.Most = x
		}
	}
	return s
}

// May: may a row be within these bounds?
func (s Stats[T]) May(from, to T) bool {
	return s.Rows > 0 && !cmp.Less(to, from) && !cmp.Less(s.Most, from) && !cmp.Less(to, s.Least)
}
