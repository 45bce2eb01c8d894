// Package sheet: the cells of a report over the accounts and the journal of a book.
package sheet

import (
	"daybook/api"
	"daybook/cell"
	"daybook/ledger"
	"daybook/report"
)

// sheet has the rows that are worked out so far, each with a cell for each period. A row names only rows ahead of it,
// so what it asks for is there.
type sheet struct {
	periods []report.Period
	ledger  *ledger.Ledger
	rows    [][]cell.Cell
}

// Report works out a report (P10).
func Report(r report.Report, l *ledger.Ledger) (string, api.Errno) {
	if !hasAccounts(l, r.Rows) {
		return "", api.ErrAccount
	}
	s := &sheet{periods: r.Periods, ledger: l}
	for _, row := range r.Rows {
		s.lay(row)
	}
	return s.text(), api.OK
}

func hasAccounts(l *ledger.Ledger, rows []report.Row) bool {
	for _, row := range rows {
		for _, part := range row.Parts {
			if part.NamesAccount() && !l.Has(part.Number) {
				return false
			}
		}
	}
	return true
}

func (s *sheet) lay(row report.Row) {
	var cells []cell.Cell
	for period := range s.periods {
		result := s.workOut(row, period)
		cells = append(cells, result)
	}
	s.rows = append(s.rows, cells)
}

// workOut is the cell of a row in a period.
func (s *sheet) workOut(row report.Row, period int) cell.Cell {
	var pile []cell.Cell
	for _, part := range row.Parts {
		count := len(pile)
		if part.IsOperand() {
			operand := s.operand(part, period)
			pile = append(pile, operand)
		} else if part.Sign == report.SignOpposite && count > 0 {
			pile[count-1] = cell.Opposite(pile[count-1])
		} else if count > 1 {
			joined := cell.Join(part.Sign, pile[count-2], pile[count-1])
			pile = pile[:count-1]
			pile[count-2] = joined
		}
	}
	if len(pile) != 1 {
		return cell.Cell{}
	}
	return pile[0]
}

func (s *sheet) operand(part report.Part, period int) cell.Cell {
	switch part.Sign {
	case '$':
		return s.at(part.Number, period)
	case '<':
		return s.at(part.Number, period-1)
	case '@', '!', '#':
		return s.movement(part, period)
	}
	return cell.Of(part.Number)
}

// at is the cell of a row in a period. Ahead of the first period it is 0, as P10 asks of <.
func (s *sheet) at(row int, period int) cell.Cell {
	if row < 0 || row >= len(s.rows) {
		return cell.Of(0)
	}
	cells := s.rows[row]
	if period < 0 || period >= len(cells) {
		return cell.Of(0)
	}
	return cells[period]
}

func (s *sheet) movement(part report.Part, period int) cell.Cell {
	if period < 0 || period >= len(s.periods) {
		return cell.Of(0)
	}
	days := s.periods[period]
	if part.Sign == '!' {
		alone := s.ledger.Alone(part.Number, days.First, days.Last)
		return cell.Of(alone.Sum)
	}
	whole := s.ledger.WithAllBelow(part.Number, days.First, days.Last)
	if part.Sign == '#' {
		return cell.Of(whole.Lines)
	}
	return cell.Of(whole.Sum)
}

func (s *sheet) text() string {
	text := ""
	for i, cells := range s.rows {
		if i > 0 {
			text += ";"
		}
		for j, c := range cells {
			if j > 0 {
				text += ","
			}
			text += c.Text()
		}
	}
	return text
}
