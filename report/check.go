package report

import "daybook/api"

// Read reads a report, and answers as Check does where it is none (P3).
func Read(text string) (Report, api.Errno, int) {
	if len(text) > api.MaxText {
		return Report{}, api.ErrLong, 0
	}
	r, place, ok := readForm(text)
	if !ok {
		return Report{}, api.ErrForm, place
	}
	if len(r.Periods) > api.MaxPeriods || len(r.Rows) > api.MaxRows {
		return Report{}, api.ErrSize, 0
	}
	period := wrongPeriod(r.Periods)
	if period < len(r.Periods) {
		return Report{}, api.ErrPeriod, period
	}
	row := wrongName(r.Rows)
	if row < len(r.Rows) {
		return Report{}, api.ErrRow, row
	}
	row = wrongKind(r.Rows)
	if row < len(r.Rows) {
		return Report{}, api.ErrType, row
	}
	return r, api.OK, 0
}

// wrongPeriod is the number of the first period that ends ahead of its beginning; how many there are, if none does.
func wrongPeriod(periods []Period) int {
	for i, period := range periods {
		if period.First > period.Last {
			return i
		}
	}
	return len(periods)
}

// wrongName is the number of the first row that names a row which is not ahead of it; how many there are, if none does.
func wrongName(rows []Row) int {
	for i, row := range rows {
		for _, part := range row.Parts {
			if part.NamesRow() && part.Number >= i {
				return i
			}
		}
	}
	return len(rows)
}

type kind int

const (
	kindNumber kind = 0
	kindMoney  kind = 1
)

// wrongKind is the number of the first row with an operation that takes what it does not take; how many there are, if
// there is none. The rows name only rows ahead of them.
func wrongKind(rows []Row) int {
	var kinds []kind
	for i, row := range rows {
		k, ok := rowKind(row, kinds)
		if !ok {
			return i
		}
		kinds = append(kinds, k)
	}
	return len(rows)
}

// rowKind is the kind of a row, where ahead has the kinds of the rows ahead of it; false, if it has none.
func rowKind(row Row, ahead []kind) (kind, bool) {
	var pile []kind
	for _, part := range row.Parts {
		count := len(pile)
		if part.IsOperand() {
			pile = append(pile, operandKind(part, ahead))
		} else if part.Sign != SignOpposite && count > 1 {
			k, ok := joinKinds(part.Sign, pile[count-2], pile[count-1])
			if !ok {
				return kindNumber, false
			}
			pile = pile[:count-1]
			pile[count-2] = k
		}
	}
	if len(pile) != 1 {
		return kindNumber, false
	}
	return pile[0], true
}

func operandKind(part Part, ahead []kind) kind {
	if part.Sign == '@' || part.Sign == '!' {
		return kindMoney
	}
	if part.NamesRow() && part.Number >= 0 && part.Number < len(ahead) {
		return ahead[part.Number]
	}
	return kindNumber
}

// joinKinds is the kind that an operation gives; false, if it does not take these two.
func joinKinds(sign byte, left kind, right kind) (kind, bool) {
	switch sign {
	case '*':
		return productKind(left, right)
	case '/':
		return quotientKind(left, right)
	}
	if left != right {
		return kindNumber, false
	}
	return left, true
}

func productKind(left kind, right kind) (kind, bool) {
	if left == kindMoney && right == kindMoney {
		return kindNumber, false
	}
	if left == kindMoney || right == kindMoney {
		return kindMoney, true
	}
	return kindNumber, true
}

func quotientKind(left kind, right kind) (kind, bool) {
	if left == kindNumber && right == kindMoney {
		return kindNumber, false
	}
	if left == kindMoney && right == kindNumber {
		return kindMoney, true
	}
	return kindNumber, true
}
