package subset

// queue: things that are taken in the order in which they were put.
type queue[T any] struct {
	things []T
	taken  int
}

func (q *queue[T]) put(thing T) { q.things = append(q.things, thing) }

// take tells the next thing, false of a queue from which all have been taken.
func (q *queue[T]) take() (T, bool) {
	if q.taken == len(q.things) {
		var none T
		return none, false
	}
	q.taken++
	return q.things[q.taken-1], true
}
