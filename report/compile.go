package report

import "daybook/cell"

// coder writes the code of a row. Its words are parts, but its numbers may be below 0.
type coder struct {
	words []Part
}

// Compile is the codes of a report's rows (P5).
func Compile(r Report) string {
	text := ""
	for i, row := range r.Rows {
		if i > 0 {
			text += ";"
		}
		text += compileRow(row)
	}
	return text
}

func compileRow(row Row) string {
	c := &coder{}
	for _, part := range row.Parts {
		c.lay(part)
	}
	text := ""
	for i, word := range c.words {
		if i > 0 {
			text += " "
		}
		text += word.word()
	}
	return text
}

func (c *coder) lay(part Part) {
	if !part.IsOperand() {
		done := c.workOut(part.Sign)
		if done {
			return
		}
	}
	c.words = append(c.words, part)
}

// workOut does at once what would be done to numbers; false, if they are none, or no number comes of them. It need
// look at the last words alone: an operand that is a number is one word by then.
func (c *coder) workOut(sign byte) bool {
	count := len(c.words)
	if count < 1 || c.words[count-1].Sign != SignNumber {
		return false
	}
	right := cell.Of(c.words[count-1].Number)
	if sign == SignOpposite {
		result := cell.Opposite(right)
		return c.replace(1, result)
	}
	if count < 2 || c.words[count-2].Sign != SignNumber {
		return false
	}
	left := cell.Of(c.words[count-2].Number)
	result := cell.Join(sign, left, right)
	return c.replace(2, result)
}

// replace puts a number in the place of the last words. There is no word for z and o, so these are left to the code.
func (c *coder) replace(taken int, result cell.Cell) bool {
	rest := len(c.words) - taken
	if taken < 0 || rest < 0 || result.State != cell.Whole {
		return false
	}
	c.words = c.words[:rest]
	c.words = append(c.words, Part{Sign: SignNumber, Number: result.Value})
	return true
}
