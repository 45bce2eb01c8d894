package ledger

import "daybook/api"

// minLines is the fewest lines of a transaction.
const minLines = 2

// Post posts a transaction; one that the journal has already is not posted again (P9). It answers, too, whether the
// journal has a new transaction now.
func (l *Ledger) Post(id int, day int, lines []api.Line) (bool, api.Errno) {
	if id < 0 || id > api.MaxId {
		return false, api.ErrId
	}
	there, ok := l.find(id)
	if ok {
		return false, repeated(there, day, lines)
	}
	if day < 0 || day > api.MaxDay {
		return false, api.ErrDay
	}
	errno := l.checkLines(lines)
	if errno != api.OK {
		return false, errno
	}
	if len(l.transactions) >= api.MaxPosts {
		return false, api.ErrFull
	}
	// the list stays its owner's
	var kept []api.Line
	kept = append(kept, lines...)
	l.transactions = append(l.transactions, transaction{id: id, day: day, lines: kept})
	return true, api.OK
}

func (l *Ledger) find(id int) (transaction, bool) {
	for _, t := range l.transactions {
		if t.id == id {
			return t, true
		}
	}
	return transaction{}, false
}

// repeated is the answer to a transaction whose id is that of one in the journal.
func repeated(there transaction, day int, lines []api.Line) api.Errno {
	if there.day != day || len(there.lines) != len(lines) {
		return api.ErrTwice
	}
	for i, line := range there.lines {
		if i >= len(lines) || lines[i] != line {
			return api.ErrTwice
		}
	}
	return api.OK
}

func (l *Ledger) checkLines(lines []api.Line) api.Errno {
	if len(lines) < minLines || len(lines) > api.MaxLines {
		return api.ErrLines
	}
	// each fault is looked for in all lines ahead of the next fault
	if !amountsMayBe(lines) {
		return api.ErrAmount
	}
	if !l.hasAccounts(lines) {
		return api.ErrAccount
	}
	if l.hasClosed(lines) {
		return api.ErrClosed
	}
	if total(lines) != 0 {
		return api.ErrBalance
	}
	return api.OK
}

func amountsMayBe(lines []api.Line) bool {
	for _, line := range lines {
		if line.Amount == 0 || line.Amount < -api.MaxAmount || line.Amount > api.MaxAmount {
			return false
		}
	}
	return true
}

// hasAccounts leaves account 0 out: no line may name it.
func (l *Ledger) hasAccounts(lines []api.Line) bool {
	for _, line := range lines {
		if line.Account <= 0 || line.Account >= len(l.accounts) {
			return false
		}
	}
	return true
}

func (l *Ledger) hasClosed(lines []api.Line) bool {
	for _, line := range lines {
		number := line.Account
		if number >= 0 && number < len(l.accounts) && l.accounts[number].closed {
			return true
		}
	}
	return false
}

// total is asked only of amounts that may be: so few of them can't go beyond an int.
func total(lines []api.Line) int {
	sum := 0
	for _, line := range lines {
		sum += line.Amount
	}
	return sum
}
