package ledger

// Movement is what some lines come to: the sum of their amounts, and how many they are.
type Movement struct {
	Sum, Lines int
}

// Has tells whether there is an account of this number.
func (l *Ledger) Has(number int) bool {
	return number >= 0 && number < len(l.accounts)
}

// Alone is the movement of an account without those below it, from the first day to the last, both included.
func (l *Ledger) Alone(number int, first int, last int) Movement {
	var chosen []bool
	for i := range l.accounts {
		chosen = append(chosen, i == number)
	}
	return l.movement(chosen, first, last)
}

// WithAllBelow is the movement of an account and of all accounts below it, from the first day to the last, both
// included.
func (l *Ledger) WithAllBelow(number int, first int, last int) Movement {
	var chosen []bool
	for i, a := range l.accounts {
		// an account stands behind its parent, so the parent is settled by now
		below := a.parent >= 0 && a.parent < len(chosen) && chosen[a.parent]
		chosen = append(chosen, below || i == number)
	}
	return l.movement(chosen, first, last)
}

// movement can't go beyond an int: there are at most MaxPosts times MaxLines amounts, none of them beyond MaxAmount.
func (l *Ledger) movement(chosen []bool, first int, last int) Movement {
	m := Movement{}
	for _, t := range l.transactions {
		if t.day < first || t.day > last {
			continue
		}
		for _, line := range t.lines {
			number := line.Account
			if number >= 0 && number < len(chosen) && chosen[number] {
				m.Sum += line.Amount
				m.Lines++
			}
		}
	}
	return m
}
