package rows

import "testing"

func self(n int) int { return n }

func TestSumOf(t *testing.T) {
	for _, x := range []struct {
		row  []int
		want int
	}{
		{nil, 0},
		{[]int{}, 0},
		{[]int{7}, 7},
		{[]int{1, 2, 4}, 7},
		{[]int{5, -8, 1}, -2},
	} {
		if got := SumOf(x.row, self); got != x.want {
			t.Errorf("SumOf(%v) = %d, want %d", x.row, got, x.want)
		}
	}
}

func TestSumOfPartOfItem(t *testing.T) {
	type pair struct{ left, right int64 }
	row := []pair{{1, 10}, {2, 20}, {3, 30}}
	if got := SumOf(row, func(p pair) int64 { return p.right }); got != 60 {
		t.Errorf("SumOf the right ones = %d, want 60", got)
	}
}
