// Package rows: questions about rows of numbers.
package rows

// Number is what can be added up.
type Number interface {
	~int | ~int8 | ~int16 | ~int32 | ~int64
}

// SumOf adds up one number of each item of a row.
func SumOf[Item any, N Number](row []Item, number func(Item) N) N {
	var sum N
	for _, item := range row {
		sum += number(item)
	}
	return sum
}
