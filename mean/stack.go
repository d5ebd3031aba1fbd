package mean

// piece is how many things a piece of a stack holds.
const piece = 256

// stack is things of which the last is taken first. They lie in pieces, so that a long one is never moved when it grows.
type stack[T any] struct {
	full [][]T
	last []T
	size int
}

func (s *stack[T]) push(x T) {
	if len(s.last) == cap(s.last) {
		s.full = append(s.full, s.last)
		s.last = make([]T, 0, piece)
	}
	s.last = append(s.last, x)
	s.size++
}

// pop takes the last; there must be one.
func (s *stack[T]) pop() T {
	if len(s.last) == 0 {
		below := len(s.full) - 1
		s.full, s.last = s.full[:below], s.full[below]
	}
	top := len(s.last) - 1
	x := s.last[top]
	s.last = s.last[:top]
	s.size--
	return x
}
