// Package daybook: accounts, a journal that outlives crashes, and a language for reports: see DOC.md.
package daybook

import (
	"daybook/api"
	"daybook/ledger"
	"daybook/report"
	"daybook/sheet"
)

// Book is a book at work.
type Book struct {
	ledger ledger.Ledger
}

// Check tells whether a text is a report (P3).
func Check(text string) (api.Errno, int) {
	_, errno, place := report.Read(text)
	return errno, place
}

// Show brings a report into its plain form (P4).
func Show(text string) (string, api.Errno) {
	r, errno, _ := report.Read(text)
	if errno != api.OK {
		return "", errno
	}
	return report.Show(r), api.OK
}

// Compile translates a report's rows into codes (P5).
func Compile(text string) (string, api.Errno) {
	r, errno, _ := report.Read(text)
	if errno != api.OK {
		return "", errno
	}
	return report.Compile(r), api.OK
}

// New makes an empty book (P6).
func New() *Book {
	return &Book{ledger: ledger.New()}
}

// Mount makes a book of what a disk holds (P12).
func Mount(image string) (*Book, api.Errno) { return nil, api.OK }

// Open opens an account (P7).
func (b *Book) Open(parent int) (int, api.Errno) {
	return b.ledger.Open(parent)
}

// Close closes an account (P8).
func (b *Book) Close(account int) api.Errno {
	return b.ledger.Close(account)
}

// Post posts a transaction (P9).
func (b *Book) Post(id int, day int, lines []api.Line) api.Errno {
	return b.ledger.Post(id, day, lines)
}

// Accounts tells the accounts (P6).
func (b *Book) Accounts() string {
	return b.ledger.Accounts()
}

// Journal tells the transactions (P6).
func (b *Book) Journal() string {
	return b.ledger.Journal()
}

// Report works out a report (P10).
func (b *Book) Report(text string) (string, api.Errno) {
	r, errno, _ := report.Read(text)
	if errno != api.OK {
		return "", errno
	}
	return sheet.Report(r, &b.ledger)
}

// Writes tells what was done to the disk since it was asked last (P11).
func (b *Book) Writes() []api.Write { return nil }
