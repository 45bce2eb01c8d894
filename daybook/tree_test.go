package daybook_test

import (
	"math/big"
	"math/rand"
	"strconv"
	"strings"
)

// tree: an expression that a test has made up. Its sign is n for a number, ~ for a - ahead of a factor, else the
// operand's or operation's own.
type tree struct {
	sign        byte
	number      int
	left, right *tree
}

// numbers: what made-up numbers are taken from; the great ones bring sums and products beyond the whole numbers.
var numbers = []int{0, 0, 1, 1, 2, 3, 7, 10, 100, 999999999, 4294967296, 223372036854775807, 500000000000000000, 999999999999999999}

// grow: a tree of so many operands. It names rows ahead of a row alone; money tells whether money may stand in it.
func grow(r *rand.Rand, operands int, row int, money bool) *tree {
	if r.Intn(5) == 0 {
		return &tree{sign: '~', left: grow(r, operands, row, money)}
	}
	if operands > 1 {
		left := 1 + r.Intn(operands-1)
		return &tree{sign: "+-*/"[r.Intn(4)], left: grow(r, left, row, money), right: grow(r, operands-left, row, money)}
	}
	signs := "nnnn#"
	if money {
		signs += "@!"
	}
	if row > 0 {
		signs += "$<"
	}
	sign := signs[r.Intn(len(signs))]
	switch sign {
	case 'n':
		return &tree{sign: sign, number: numbers[r.Intn(len(numbers))]}
	case '$', '<':
		return &tree{sign: sign, number: r.Intn(row)}
	}
	return &tree{sign: sign, number: r.Intn(16)}
}

func (t *tree) isOneOf(signs string) bool { return strings.IndexByte(signs, t.sign) >= 0 }

func (t *tree) parts() int {
	if t == nil {
		return 0
	}
	return 1 + t.left.parts() + t.right.parts()
}

func (t *tree) name() string {
	if t.sign == 'n' {
		return strconv.Itoa(t.number)
	}
	return string(t.sign) + strconv.Itoa(t.number)
}

func inBrackets(text string, yes bool) string {
	if yes {
		return "(" + text + ")"
	}
	return text
}

// plain: the plain form, by the words of P4.
func (t *tree) plain() string {
	switch t.sign {
	case '+', '-':
		return t.left.plain() + string(t.sign) + inBrackets(t.right.plain(), t.right.isOneOf("+-"))
	case '*', '/':
		return inBrackets(t.left.plain(), t.left.isOneOf("+-")) + string(t.sign) + inBrackets(t.right.plain(), t.right.isOneOf("+-*/"))
	case '~':
		return "-" + inBrackets(t.left.plain(), t.left.isOneOf("+-*/"))
	}
	return t.name()
}

// full: the same with brackets around whatever is not an operand.
func (t *tree) full() string {
	switch t.sign {
	case '+', '-', '*', '/':
		return "(" + t.left.full() + string(t.sign) + t.right.full() + ")"
	case '~':
		return "(-" + t.left.full() + ")"
	}
	return t.name()
}

// loose: the plain form with brackets, blanks and digits 0 thrown in.
func (t *tree) loose(r *rand.Rand) string {
	blank := func() string { return strings.Repeat(" ", r.Intn(8)/6) }
	around := func(u *tree, needed string) string {
		return blank() + inBrackets(u.loose(r), u.isOneOf(needed) || r.Intn(6) == 0) + blank()
	}
	switch t.sign {
	case '+', '-':
		return around(t.left, "") + string(t.sign) + around(t.right, "+-")
	case '*', '/':
		return around(t.left, "+-") + string(t.sign) + around(t.right, "+-*/")
	case '~':
		return "-" + around(t.left, "+-*/")
	case '$', '<':
		return t.name()
	case 'n':
		zeros := r.Intn(19 - len(t.name()))
		return strings.Repeat("0", zeros/8) + t.name()
	}
	if t.number < 10 && r.Intn(2) == 0 {
		return string(t.sign) + "0" + strconv.Itoa(t.number)
	}
	return t.name()
}

// isMoney: the kind of a tree, by the document's words; whether each operation takes what it takes. rows has the kinds
// of the rows ahead.
func (t *tree) isMoney(rows []bool) (bool, bool) {
	switch t.sign {
	case '@', '!':
		return true, true
	case '#', 'n':
		return false, true
	case '$', '<':
		return rows[t.number], true
	case '~':
		return t.left.isMoney(rows)
	}
	left, leftOk := t.left.isMoney(rows)
	right, rightOk := t.right.isMoney(rows)
	ok := leftOk && rightOk
	switch t.sign {
	case '*':
		return left != right, ok && !(left && right)
	case '/':
		return left && !right, ok && (left || !right)
	}
	return left, ok && left == right
}

// value: a cell as a number of any size, or as z or o.
type value struct {
	number *big.Int
	bad    string
}

func (v value) String() string {
	if v.bad != "" {
		return v.bad
	}
	return v.number.String()
}

func whole(n *big.Int) value {
	if !n.IsInt64() {
		return value{bad: "o"}
	}
	return value{number: n}
}

// joined: what comes of an operation, by the words of P10.
func joined(sign byte, left, right value) value {
	if left.bad != "" {
		return left
	}
	if right.bad != "" {
		return right
	}
	n := new(big.Int)
	switch sign {
	case '+':
		return whole(n.Add(left.number, right.number))
	case '-':
		return whole(n.Sub(left.number, right.number))
	case '*':
		return whole(n.Mul(left.number, right.number))
	}
	if right.number.Sign() == 0 {
		return value{bad: "z"}
	}
	return whole(n.Quo(left.number, right.number))
}

func opposite(v value) value {
	return joined('-', value{number: new(big.Int)}, v)
}

// value: what the tree comes to, where is tells the cells of the operands with a sign.
func (t *tree) value(is map[string]value) value {
	switch t.sign {
	case 'n':
		return value{number: big.NewInt(int64(t.number))}
	case '~':
		return opposite(t.left.value(is))
	case '+', '-', '*', '/':
		return joined(t.sign, t.left.value(is), t.right.value(is))
	}
	return is[t.name()]
}
