// Package daybook: accounts, a journal that outlives crashes, and a language for reports: see DOC.md.
package daybook

import (
	"daybook/api"
	"daybook/disk"
	"daybook/ledger"
	"daybook/report"
	"daybook/sheet"
)

// Book is a book at work.
type Book struct {
	ledger ledger.Ledger
	disk   disk.Disk
}

// Check tells whether a text is a report (P3).
func Check(text string) (api.Errno, int) {
	_, errno, place := report.Read(text)
	return errno, place
}

// Show brings a report into its plain form (P4).
func Show(text string) (string, api.Errno) {
	r, errno, _ := report.Read(text)
	if errno != api.OK {
		return "", errno
	}
	return report.Show(r), api.OK
}

// Compile translates a report's rows into codes (P5).
func Compile(text string) (string, api.Errno) {
	r, errno, _ := report.Read(text)
	if errno != api.OK {
		return "", errno
	}
	return report.Compile(r), api.OK
}

// New makes an empty book (P6).
func New() *Book {
	return &Book{ledger: ledger.New()}
}

// Mount makes a book of what a disk holds (P12): one that has made all calls again of which the disk has a record.
func Mount(image string) (*Book, api.Errno) {
	if len(image) != disk.Size {
		return nil, api.ErrImage
	}
	b := New()
	records := disk.Records(image)
	for _, r := range records {
		b.redo(r)
	}
	// an image that is not, to the last byte, what this book writes was not left by any book
	writes := b.Writes()
	if disk.Image(writes) != image {
		return nil, api.ErrImage
	}
	return b, api.OK
}

// redo makes the call again of which a record tells. A call that is refused now leaves no record, so Mount finds it out.
func (b *Book) redo(r disk.Record) {
	switch r.Kind {
	case disk.Opened:
		b.Open(r.Number)
	case disk.Closed:
		b.Close(r.Number)
	case disk.Posted:
		b.Post(r.Number, r.Day, r.Lines)
	}
}

// Open opens an account (P7).
func (b *Book) Open(parent int) (int, api.Errno) {
	number, errno := b.ledger.Open(parent)
	if errno == api.OK {
		b.disk.Lay(disk.Record{Kind: disk.Opened, Number: parent})
	}
	return number, errno
}

// Close closes an account (P8).
func (b *Book) Close(account int) api.Errno {
	errno := b.ledger.Close(account)
	if errno == api.OK {
		b.disk.Lay(disk.Record{Kind: disk.Closed, Number: account})
	}
	return errno
}

// Post posts a transaction (P9).
func (b *Book) Post(id int, day int, lines []api.Line) api.Errno {
	isNew, errno := b.ledger.Post(id, day, lines)
	if isNew {
		b.disk.Lay(disk.Record{Kind: disk.Posted, Number: id, Day: day, Lines: lines})
	}
	return errno
}

// Accounts tells the accounts (P6).
func (b *Book) Accounts() string {
	return b.ledger.Accounts()
}

// Journal tells the transactions (P6).
func (b *Book) Journal() string {
	return b.ledger.Journal()
}

// Report works out a report (P10).
func (b *Book) Report(text string) (string, api.Errno) {
	r, errno, _ := report.Read(text)
	if errno != api.OK {
		return "", errno
	}
	return sheet.Report(r, &b.ledger)
}

// Writes tells what was done to the disk since it was asked last (P11).
func (b *Book) Writes() []api.Write {
	return b.disk.Writes()
}
