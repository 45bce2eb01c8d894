package cell

import (
	"math/big"
	"testing"
)

// edges: numbers at which a sum, difference, product or quotient may leave the whole numbers.
func edges() []int {
	list := []int{0, 1, 2, 3, 7, 10, 3037000499, 3037000500, 4294967296, 999999999999999999, Greatest / 2, Greatest/2 + 1, Greatest / 3, Greatest - 1, Greatest}
	for _, v := range list {
		list = append(list, -v)
	}
	return append(list, Least, Least+1, Least/2, Least/2-1)
}

// exact: the cell of a number of any size.
func exact(v *big.Int) Cell {
	if !v.IsInt64() {
		return Cell{State: Beyond}
	}
	return Of(int(v.Int64()))
}

func want(sign byte, x, y int) Cell {
	left, right, result := big.NewInt(int64(x)), big.NewInt(int64(y)), new(big.Int)
	switch sign {
	case '+':
		return exact(result.Add(left, right))
	case '-':
		return exact(result.Sub(left, right))
	case '*':
		return exact(result.Mul(left, right))
	}
	if y == 0 {
		return Cell{State: ByZero}
	}
	return exact(result.Quo(left, right))
}

func TestJoinIsExact(t *testing.T) {
	for _, x := range edges() {
		for _, y := range edges() {
			for _, sign := range []byte("+-*/") {
				if got := Join(sign, Of(x), Of(y)); got != want(sign, x, y) {
					t.Errorf("%d %c %d = %v, want %v", x, sign, y, got, want(sign, x, y))
				}
			}
		}
		if got := Opposite(Of(x)); got != want('-', 0, x) {
			t.Errorf("-(%d) = %v, want %v", x, got, want('-', 0, x))
		}
	}
}

func TestQuotientLosesWhatIsBehindThePoint(t *testing.T) {
	for _, c := range []struct{ x, y, want int }{{-7, 2, -3}, {7, -2, -3}, {-7, -2, 3}, {7, 2, 3}, {1, 2, 0}, {-1, 2, 0}, {Least, 2, Least / 2}} {
		if got := Join('/', Of(c.x), Of(c.y)); got != Of(c.want) {
			t.Errorf("%d / %d = %v, want %d", c.x, c.y, got, c.want)
		}
	}
}

func TestFirstFaultStays(t *testing.T) {
	z, o, zero := Cell{State: ByZero}, Cell{State: Beyond}, Of(0)
	for _, sign := range []byte("+-*/") {
		for _, c := range []struct{ left, right, want Cell }{
			{z, zero, z}, {o, zero, o}, {zero, z, z}, {zero, o, o}, {z, o, z}, {o, z, o}, {z, z, z}, {o, o, o},
		} {
			if got := Join(sign, c.left, c.right); got != c.want {
				t.Errorf("%v %c %v = %v, want %v", c.left, sign, c.right, got, c.want)
			}
		}
	}
	if Opposite(z) != z || Opposite(o) != o {
		t.Errorf("-z = %v, -o = %v", Opposite(z), Opposite(o))
	}
}

func TestText(t *testing.T) {
	for _, c := range []struct {
		cell Cell
		want string
	}{
		{Of(0), "0"}, {Of(7), "7"}, {Of(-7), "-7"}, {Of(100), "100"}, {Of(Greatest), "9223372036854775807"}, {Of(Least), "-9223372036854775808"}, {Cell{State: ByZero}, "z"}, {Cell{State: Beyond}, "o"},
	} {
		if got := c.cell.Text(); got != c.want {
			t.Errorf("%v is told as %q, want %q", c.cell, got, c.want)
		}
	}
}
