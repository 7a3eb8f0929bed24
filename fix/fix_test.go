package fix

import (
	"math"
	"math/big"
	"slices"
	"testing"

	"dormouse/api"
)

// around has the numbers next to each of the marks, as far as int has them.
func around(marks ...int) []int {
	var list []int
	for _, m := range marks {
		list = append(list, m)
		if m > math.MinInt {
			list = append(list, m-1)
		}
		if m < math.MaxInt {
			list = append(list, m+1)
		}
	}
	slices.Sort(list)
	return slices.Compact(list)
}

// number is x as a number without bounds.
func number(x int) *big.Int { return big.NewInt(int64(x)) }

// counted is x, or the bound beyond which it lies.
func counted(x, low, high int) *big.Int {
	if x < low {
		return number(low)
	}
	if x > high {
		return number(high)
	}
	return number(x)
}

// same reports got, unless it is what was wanted.
func same(t *testing.T, call string, a, b, got int, want *big.Int) {
	t.Helper()
	if number(got).Cmp(want) != 0 {
		t.Errorf("%s(%d, %d) is %d, not %s", call, a, b, got, want)
	}
}

// utilWanted is P1.1, worked out without bounds.
func utilWanted(c, t int) *big.Int {
	if t < 1 {
		return number(api.Never)
	}
	product := new(big.Int).Lsh(counted(c, 0, 1<<29), 32)
	product.Add(product, number(t))
	product.Sub(product, number(1))
	return product.Div(product, number(t))
}

// floorWanted is P1.3's Floor, worked out without bounds: for a divisor above
// 0, Div of package big rounds down.
func floorWanted(x int) *big.Int {
	return new(big.Int).Div(number(x), new(big.Int).Lsh(number(1), 32))
}

// P1.1
func TestUtilTable(t *testing.T) {
	for _, row := range []struct{ c, t, want int }{
		{1, 3, 1431655766},
		{2, 3, 2863311531},
		{3, 3, 4294967296},
		{3, 4, 3221225472},
		{7, 2, 15032385536},
		{-5, 7, 0},
		{0, 7, 0},
		{0, 1, 0},
		{1, 1, 4294967296},
		{1, 0, 1099511627776},
		{1, -1, 1099511627776},
		{0, 0, 1099511627776},
		{-1, 0, 1099511627776},
		{1 << 30, math.MinInt, 1099511627776},
		{1<<29 - 1, 1, 2305843004918726656},
		{1 << 29, 1, 2305843009213693952},
		{1<<29 + 1, 1, 2305843009213693952},
		{math.MaxInt, 1, 2305843009213693952},
		{math.MinInt, 1, 0},
		{1, 1 << 32, 1},
		{1, 1<<32 + 1, 1},
		{1, 1<<32 - 1, 2},
		{1, math.MaxInt, 1},
		{0, math.MaxInt, 0},
		{math.MaxInt, math.MaxInt, 1},
		{1 << 29, 1 << 61, 1},
		{1 << 29, 1<<61 - 1, 2},
	} {
		same(t, "Util", row.c, row.t, Util(row.c, row.t), number(row.want))
	}
}

// P1.1
func TestUtilEdges(t *testing.T) {
	cs := around(math.MinInt, -1<<29, 0, 5, 1<<12, 1<<29, 1<<31, 1<<32, math.MaxInt)
	ts := around(math.MinInt, -1<<32, 0, 3, 7, 10, 1<<14, 1<<29, 1<<32, 1<<61, math.MaxInt)
	for _, c := range cs {
		for _, d := range ts {
			same(t, "Util", c, d, Util(c, d), utilWanted(c, d))
		}
	}
}

// P1.1
func TestUtilOrdinary(t *testing.T) {
	for c := -3; c <= 60; c++ {
		for d := -3; d <= 60; d++ {
			same(t, "Util", c, d, Util(c, d), utilWanted(c, d))
		}
	}
}

// P1.2
func TestTimesTable(t *testing.T) {
	for _, row := range []struct{ u, n, want int }{
		{3, 4, 12},
		{-3, 4, 0},
		{3, -4, 0},
		{-3, -4, 0},
		{0, 5, 0},
		{5, 0, 0},
		{1431655766, 3, 4294967298},
		{api.One, 7, 30064771072},
		{1<<34 - 1, 1, 17179869183},
		{1 << 34, 1, 17179869184},
		{1<<34 + 1, 1, 17179869184},
		{math.MaxInt, 1, 17179869184},
		{1, 1<<27 - 1, 134217727},
		{1, 1 << 27, 134217728},
		{1, 1<<27 + 1, 134217728},
		{1, math.MaxInt, 134217728},
		{1 << 34, 1 << 27, 2305843009213693952},
		{math.MaxInt, math.MaxInt, 2305843009213693952},
		{math.MinInt, math.MaxInt, 0},
		{math.MaxInt, math.MinInt, 0},
		{math.MinInt, math.MinInt, 0},
	} {
		same(t, "Times", row.u, row.n, Times(row.u, row.n), number(row.want))
	}
}

// P1.2
func TestTimesEdges(t *testing.T) {
	us := around(math.MinInt, -1<<34, 0, 9, 1<<27, 1<<32, 1<<34, 1<<40, math.MaxInt)
	ns := around(math.MinInt, -1<<27, 0, 9, 1<<14, 1<<27, 1<<34, math.MaxInt)
	for _, u := range us {
		for _, n := range ns {
			want := new(big.Int).Mul(counted(u, 0, 1<<34), counted(n, 0, 1<<27))
			same(t, "Times", u, n, Times(u, n), want)
		}
	}
}

// P1.3
func TestWhole(t *testing.T) {
	for _, row := range []struct{ n, want int }{
		{0, 0},
		{1, 4294967296},
		{-1, -4294967296},
		{3, 12884901888},
		{-7, -30064771072},
		{1<<30 - 1, 4611686014132420608},
		{1 << 30, 4611686018427387904},
		{1<<30 + 1, 4611686018427387904},
		{math.MaxInt, 4611686018427387904},
		{-1<<30 + 1, -4611686014132420608},
		{-1 << 30, -4611686018427387904},
		{-1<<30 - 1, -4611686018427387904},
		{math.MinInt, -4611686018427387904},
	} {
		same(t, "Whole", row.n, 0, Whole(row.n), number(row.want))
	}
	for _, n := range around(math.MinInt, -1<<32, -1<<30, -40, 0, 40, 1<<30, 1<<32, math.MaxInt) {
		same(t, "Whole", n, 0, Whole(n), new(big.Int).Lsh(counted(n, -1<<30, 1<<30), 32))
	}
}

// P1.3
func TestFloorTable(t *testing.T) {
	for _, row := range []struct{ x, want int }{
		{0, 0},
		{1, 0},
		{-1, -1},
		{4294967295, 0},
		{4294967296, 1},
		{4294967297, 1},
		{-4294967295, -1},
		{-4294967296, -1},
		{-4294967297, -2},
		{8589934591, 1},
		{8589934592, 2},
		{-8589934591, -2},
		{-8589934592, -2},
		{-8589934593, -3},
		{math.MaxInt, 2147483647},
		{math.MinInt, -2147483648},
		{math.MinInt + 1, -2147483648},
	} {
		same(t, "Floor", row.x, 0, Floor(row.x), number(row.want))
	}
}

// P1.3
func TestFloorEdges(t *testing.T) {
	marks := []int{math.MinInt, math.MaxInt, 1 << 61, -1 << 61, 1 << 31, -1 << 31}
	for n := -5; n <= 5; n++ {
		marks = append(marks, n<<32, n<<32+12345)
	}
	for _, x := range around(marks...) {
		same(t, "Floor", x, 0, Floor(x), floorWanted(x))
	}
}

// P1.3: each whole number of quanta comes back, and what lies within a quantum
// goes down to its beginning.
func TestFloorOfWhole(t *testing.T) {
	for _, n := range around(-1<<30+1, -7, 0, 7, 1<<30-1) {
		same(t, "Floor of Whole", n, 0, Floor(Whole(n)), number(n))
		same(t, "Floor behind Whole", n, 0, Floor(Whole(n)+api.One-1), number(n))
		same(t, "Floor ahead of Whole", n, 0, Floor(Whole(n)-1), number(n-1))
	}
}

// The way of P1.1 to P1.3: arguments beyond a bound count as that bound.
func TestBetween(t *testing.T) {
	for _, row := range []struct{ x, want int }{
		{math.MinInt, -2}, {-3, -2}, {-2, -2}, {0, 0}, {4, 4}, {5, 5}, {6, 5}, {math.MaxInt, 5},
	} {
		same(t, "between", row.x, 0, between(row.x, -2, 5), number(row.want))
	}
	if got := between("b", "c", "e"); got != "c" {
		t.Errorf("between of texts is %q", got)
	}
	if got := between(2.5, 0.5, 1.5); got != 1.5 {
		t.Errorf("between of floats is %v", got)
	}
}
