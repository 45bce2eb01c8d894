// Package report: reports as texts: their form, what makes them wrong, their plain form and their code.
package report

import "strconv"

// Report is what a report's text says.
type Report struct {
	Periods []Period
	Rows    []Row
}

// Period is the days from the first to the last.
type Period struct {
	First, Last int
}

// Row is an expression without its brackets: its parts stand in the order in which a pile of cells works them out,
// each operation behind its two operands, each - ahead of a factor behind that factor.
type Row struct {
	Parts []Part
}

// Part is an operand, an operation, or a - ahead of a factor.
type Part struct {
	Sign   byte // one of @ ! # $ < + - * / or one of the two below
	Number int  // of an operand: the number itself, or that of its account or row
}

const (
	SignNumber   byte = '0' // an operand that is a number
	SignOpposite byte = '~' // a - ahead of a factor, told from the operation -
)

// IsOperand tells operands from operations and from a - ahead of a factor.
func (p Part) IsOperand() bool {
	switch p.Sign {
	case SignNumber, '@', '!', '#', '$', '<':
		return true
	}
	return false
}

// NamesAccount tells whether the part stands for an account's movement.
func (p Part) NamesAccount() bool {
	return p.Sign == '@' || p.Sign == '!' || p.Sign == '#'
}

// NamesRow tells whether the part stands for a cell of another row.
func (p Part) NamesRow() bool {
	return p.Sign == '$' || p.Sign == '<'
}

// word is the part as a code writes it.
func (p Part) word() string {
	if p.Sign == SignNumber {
		return strconv.Itoa(p.Number)
	}
	sign := signText(p.Sign)
	if p.IsOperand() {
		return sign + strconv.Itoa(p.Number)
	}
	return sign
}

func signText(sign byte) string {
	return string([]byte{sign})
}
