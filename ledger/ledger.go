// Package ledger: the accounts and the journal of one book.
package ledger

import "daybook/api"

// noParent is the parent of account 0: no account has this number, so account 0 is below none.
const noParent = -1

type account struct {
	parent int
	closed bool
}

type transaction struct {
	id, day int
	lines   []api.Line
}

// Ledger is a tree of accounts, each behind its parent, and the transactions in the order in which they were posted.
type Ledger struct {
	accounts     []account
	transactions []transaction
}

// New is an empty ledger: it has account 0 alone (P6).
func New() Ledger {
	return Ledger{accounts: []account{{parent: noParent}}}
}

// Open opens an account below another, and answers its number (P7).
func (l *Ledger) Open(parent int) (int, api.Errno) {
	count := len(l.accounts)
	if parent < 0 || parent >= count {
		return 0, api.ErrAccount
	}
	if l.accounts[parent].closed {
		return 0, api.ErrClosed
	}
	if count >= api.MaxAccounts {
		return 0, api.ErrFull
	}
	l.accounts = append(l.accounts, account{parent: parent})
	return count, api.OK
}

// Close closes an account (P8).
func (l *Ledger) Close(number int) api.Errno {
	if number <= 0 || number >= len(l.accounts) {
		return api.ErrAccount
	}
	if l.accounts[number].closed {
		return api.ErrClosed
	}
	if l.hasOpenBelow(number) {
		return api.ErrOpen
	}
	all := l.Alone(number, 0, api.MaxDay)
	if all.Sum != 0 {
		return api.ErrNonzero
	}
	l.accounts[number].closed = true
	return api.OK
}

func (l *Ledger) hasOpenBelow(number int) bool {
	for _, a := range l.accounts {
		if a.parent == number && !a.closed {
			return true
		}
	}
	return false
}
