package report

import "daybook/api"

// reader goes over a text once, from left to right. Each of its steps that answers false has stopped at the first
// byte that can't stand there, or at the text's end: that is the place of the fault.
type reader struct {
	text  string
	at    int
	parts []Part // of the row that is being read
}

// readForm reads a text by its form alone; where it is no report, it answers the place of the fault, and false.
func readForm(text string) (Report, int, bool) {
	r := &reader{text: text}
	periods, ok := r.periods()
	if !ok {
		return Report{}, r.at, false
	}
	rows, ok := r.rows()
	if !ok {
		return Report{}, r.at, false
	}
	return Report{Periods: periods, Rows: rows}, 0, true
}

func (r *reader) periods() ([]Period, bool) {
	var periods []Period
	for more := true; more; more = r.accept(',') {
		period, ok := r.period()
		if !ok {
			return nil, false
		}
		periods = append(periods, period)
	}
	if !r.accept('|') {
		return nil, false
	}
	return periods, true
}

func (r *reader) period() (Period, bool) {
	first, ok := r.day()
	if !ok {
		return Period{}, false
	}
	if !r.accept('-') {
		return Period{}, false
	}
	last, ok := r.day()
	if !ok {
		return Period{}, false
	}
	return Period{First: first, Last: last}, true
}

func (r *reader) day() (int, bool) {
	r.skipBlanks()
	return r.digits(dayDigits)
}

func (r *reader) rows() ([]Row, bool) {
	var rows []Row
	for more := true; more; more = r.accept(';') {
		// each row has a list of its own
		r.parts = nil
		if !r.expression() {
			return nil, false
		}
		rows = append(rows, Row{Parts: r.parts})
	}
	if r.at < len(r.text) {
		return nil, false
	}
	return rows, true
}

func (r *reader) expression() bool {
	if !r.term() {
		return false
	}
	sign := r.next()
	for sign == '+' || sign == '-' {
		r.at++
		if !r.term() {
			return false
		}
		r.parts = append(r.parts, Part{Sign: sign})
		sign = r.next()
	}
	return true
}

func (r *reader) term() bool {
	if !r.factor() {
		return false
	}
	sign := r.next()
	for sign == '*' || sign == '/' {
		r.at++
		if !r.factor() {
			return false
		}
		r.parts = append(r.parts, Part{Sign: sign})
		sign = r.next()
	}
	return true
}

// factor calls itself, or expression, only behind a byte that it has stepped over: so it ends.
func (r *reader) factor() bool {
	if r.accept('-') {
		if !r.factor() {
			return false
		}
		r.parts = append(r.parts, Part{Sign: SignOpposite})
		return true
	}
	if r.accept('(') {
		if !r.expression() {
			return false
		}
		return r.accept(')')
	}
	return r.operand()
}

// the most digits of a day, an account's number and a row's number
const (
	dayDigits     = 3
	accountDigits = 2
	rowDigits     = 1
)

func (r *reader) operand() bool {
	sign := SignNumber
	most := api.MaxDigits
	next := r.next()
	switch next {
	case '@', '!', '#':
		sign = next
		most = accountDigits
		r.at++
	case '$', '<':
		sign = next
		most = rowDigits
		r.at++
	}
	number, ok := r.digits(most)
	if !ok {
		return false
	}
	r.parts = append(r.parts, Part{Sign: sign, Number: number})
	return true
}

// digits reads as many digits as there are, but no more than it is told; false if there is none.
func (r *reader) digits(most int) (int, bool) {
	number := 0
	count := 0
	for count < most && r.at < len(r.text) {
		digit := r.text[r.at]
		if digit < '0' || digit > '9' {
			break
		}
		number = number*10 + int(digit-'0')
		count++
		r.at++
	}
	return number, count > 0
}

func (r *reader) accept(sign byte) bool {
	next := r.next()
	if next != sign {
		return false
	}
	r.at++
	return true
}

// next is the byte behind the blanks. At the end it is 0: no report has this byte, so the two need not be told apart.
func (r *reader) next() byte {
	r.skipBlanks()
	if r.at < len(r.text) {
		return r.text[r.at]
	}
	return 0
}

func (r *reader) skipBlanks() {
	for r.at < len(r.text) && r.text[r.at] == ' ' {
		r.at++
	}
}
