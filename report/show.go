package report

import "strconv"

// shown is the plain form of a piece of a row. Its rank tells how firmly its outermost part holds it together: what
// stands where something firmer must stand needs brackets.
type shown struct {
	text string
	rank int
}

const (
	rankSum     = 1
	rankProduct = 2
	rankFactor  = 3
)

// Show is the plain form of a report (P4).
func Show(r Report) string {
	text := ""
	for i, period := range r.Periods {
		if i > 0 {
			text += ","
		}
		text += showPeriod(period)
	}
	text += "|"
	for i, row := range r.Rows {
		if i > 0 {
			text += ";"
		}
		text += showRow(row)
	}
	return text
}

func showPeriod(period Period) string {
	first := strconv.Itoa(period.First)
	last := strconv.Itoa(period.Last)
	return first + "-" + last
}

func showRow(row Row) string {
	var pile []shown
	for _, part := range row.Parts {
		count := len(pile)
		if part.IsOperand() {
			pile = append(pile, shown{text: part.word(), rank: rankFactor})
		} else if part.Sign == SignOpposite && count > 0 {
			pile[count-1] = showOpposite(pile[count-1])
		} else if count > 1 {
			joined := showOperation(part.Sign, pile[count-2], pile[count-1])
			pile = pile[:count-1]
			pile[count-2] = joined
		}
	}
	if len(pile) != 1 {
		return ""
	}
	return pile[0].text
}

func showOpposite(operand shown) shown {
	text := bracketed(operand, rankFactor)
	return shown{text: "-" + text, rank: rankFactor}
}

// showOperation asks more of the right operand than of the left one: what stands further left is worked out first
// without brackets, what stands further right is not.
func showOperation(sign byte, left shown, right shown) shown {
	rank := rankSum
	if sign == '*' || sign == '/' {
		rank = rankProduct
	}
	leftText := bracketed(left, rank)
	rightText := bracketed(right, rank+1)
	return shown{text: leftText + signText(sign) + rightText, rank: rank}
}

func bracketed(piece shown, least int) string {
	if piece.rank < least {
		return "(" + piece.text + ")"
	}
	return piece.text
}
