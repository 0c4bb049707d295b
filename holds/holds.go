// Package holds: what was promised, and what became of it.
package holds

import "larder/api"

// Book has each hold by its number, in one of two maps: whether a hold is there and open is then one question.
type Book struct {
	open   map[int]api.Hold
	closed map[int]api.Hold
}

// New makes a book without holds.
func New() *Book {
	return &Book{open: map[int]api.Hold{}, closed: map[int]api.Hold{}}
}

// Made tells how many holds were made, whatever became of them.
func (b *Book) Made() int { return len(b.open) + len(b.closed) }

// Add takes in a hold as an open one, and tells the number that it gets.
func (b *Book) Add(h api.Hold) int {
	h.Number, h.State = b.Made()+1, api.Open
	b.open[h.Number] = h
	return h.Number
}

// Close gives an open hold the state that it keeps.
func (b *Book) Close(number, state int) api.Errno {
	h, isOpen := b.open[number]
	if !isOpen {
		return api.ErrNone
	}
	delete(b.open, number)
	h.State = state
	b.closed[number] = h
	return api.OK
}

// Expire closes the open holds that have come to their end.
func (b *Book) Expire(now int) {
	for number, h := range b.open {
		if h.Ends <= now {
			b.Close(number, api.Expired)
		}
	}
}

// Ages counts the open holds by how long ago they were made.
func (b *Book) Ages(now int) [api.Bands]int {
	var ages [api.Bands]int
	for _, h := range b.open {
		ages[band(now-h.Made)]++
	}
	return ages
}

func band(age int) int {
	switch {
	case age < 10:
		return 0
	case age < 100:
		return 1
	default:
		return 2
	}
}

// After lists the first n holds whose numbers are above after.
func (b *Book) After(after, n int) []api.Hold {
	first := min(max(after, 0), b.Made()) // first+1 can then not wrap round
	n = min(max(n, 0), b.Made()-first)
	list := make([]api.Hold, 0, n)
	for k := range n {
		list = append(list, b.at(first+1+k))
	}
	return list
}

// Counting lists the holds of a good that count.
func (b *Book) Counting(good int) []api.Hold {
	var list []api.Hold
	for _, h := range b.After(0, b.Made()) {
		if h.Good == good && counts(h) {
			list = append(list, h)
		}
	}
	return list
}

func counts(h api.Hold) bool { return h.State == api.Open || h.State == api.Committed }

func (b *Book) at(number int) api.Hold {
	if h, isOpen := b.open[number]; isOpen {
		return h
	}
	return b.closed[number]
}
