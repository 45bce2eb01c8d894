package ledger

import "strconv"

// Accounts is the accounts as a text: the parent of each from 1 on, and an x if it is closed (P6).
func (l *Ledger) Accounts() string {
	text := ""
	for i, a := range l.accounts {
		if i == 0 {
			continue
		}
		if i > 1 {
			text += ","
		}
		text += strconv.Itoa(a.parent)
		if a.closed {
			text += "x"
		}
	}
	return text
}

// Journal is the transactions as a text (P6).
func (l *Ledger) Journal() string {
	text := ""
	for i, t := range l.transactions {
		if i > 0 {
			text += ";"
		}
		text += showTransaction(t)
	}
	return text
}

func showTransaction(t transaction) string {
	text := showPair(t.id, t.day)
	for _, line := range t.lines {
		text += "," + showPair(line.Account, line.Amount)
	}
	return text
}

func showPair(first int, second int) string {
	left := strconv.Itoa(first)
	right := strconv.Itoa(second)
	return left + ":" + right
}
