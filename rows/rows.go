// Package rows: questions about rows of numbers.
package rows

// Number is what can be added up.
type Number interface {
	~int | ~int8 | ~int16 | ~int32 | ~int64
}

// Sum adds up a row.
func Sum[N Number](row []N) N {
	return SumOf(row, func(n N) N { return n })
}

// SumOf adds up one number of each item of a row.
func SumOf[Item any, N Number](row []Item, number func(Item) N) N {
	var sum N
	for _, item := range row {
		sum += number(item)
	}
	return sum
}

// Least is the least number of a row; of an empty row it is 0, so that no row makes it panic.
func Least[N Number](row []N) N {
	if len(row) == 0 {
		return 0
	}
	least := row[0]
	for _, n := range row {
		least = min(least, n)
	}
	return least
}
