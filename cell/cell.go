// Package cell: whole numbers, and sums and products of them that never go astray unseen.
package cell

import "strconv"

const (
	Least    = -9223372036854775808
	Greatest = 9223372036854775807
)

// State tells what a cell holds.
type State int

const (
	Whole  State = 0 // a whole number
	ByZero State = 1 // z: something is divided by zero
	Beyond State = 2 // o: something is no whole number
)

// Cell is a whole number, or the reason why there is none; Value is 0 then.
type Cell struct {
	State State
	Value int
}

// Of is the cell of a whole number.
func Of(value int) Cell {
	return Cell{State: Whole, Value: value}
}

// Text is the cell as a report tells it (P10).
func (c Cell) Text() string {
	switch c.State {
	case ByZero:
		return "z"
	case Beyond:
		return "o"
	}
	return strconv.Itoa(c.Value)
}

// Join is what comes of an operation, one of + - * and /.
func Join(sign byte, left Cell, right Cell) Cell {
	if left.State != Whole {
		return left
	}
	if right.State != Whole {
		return right
	}
	switch sign {
	case '+':
		return sum(left.Value, right.Value)
	case '-':
		return difference(left.Value, right.Value)
	case '*':
		return product(left.Value, right.Value)
	}
	return quotient(left.Value, right.Value)
}

// Opposite is what comes of a - ahead of a cell.
func Opposite(operand Cell) Cell {
	if operand.State != Whole {
		return operand
	}
	return difference(0, operand.Value)
}

func sum(left int, right int) Cell {
	if right > 0 && left > Greatest-right {
		return Cell{State: Beyond}
	}
	if right < 0 && left < Least-right {
		return Cell{State: Beyond}
	}
	return Of(left + right)
}

func difference(left int, right int) Cell {
	if right < 0 && left > Greatest+right {
		return Cell{State: Beyond}
	}
	if right > 0 && left < Least+right {
		return Cell{State: Beyond}
	}
	return Of(left - right)
}

func product(left int, right int) Cell {
	if productIsBeyond(left, right) {
		return Cell{State: Beyond}
	}
	return Of(left * right)
}

// productIsBeyond asks by division, which rounds towards 0 and so keeps each bound on the safe side of the product.
func productIsBeyond(left int, right int) bool {
	if left > 0 && right > 0 {
		return left > Greatest/right
	}
	if left > 0 && right < 0 {
		return right < Least/left
	}
	if left < 0 && right > 0 {
		return left < Least/right
	}
	if left < 0 && right < 0 {
		return left < Greatest/right
	}
	return false
}

func quotient(left int, right int) Cell {
	if right == 0 {
		return Cell{State: ByZero}
	}
	if left == Least && right == -1 {
		return Cell{State: Beyond}
	}
	return Of(left / right)
}
