package disk

import "daybook/api"

// Kind tells which call a record is of. None is 0: so a record is told from a sector that was never written.
type Kind byte

const (
	Opened Kind = 1
	Closed Kind = 2
	Posted Kind = 3
)

// Record is a call that has changed a book, with all that the call was handed.
type Record struct {
	Kind   Kind
	Number int        // of Open the parent, of Close the account, of Post the id
	Day    int        // of Post alone
	Lines  []api.Line // of Post alone
}

// numberSize is how many bytes a number takes. Two bytes and ten numbers are the most that a record has: they fit a
// sector.
const numberSize = 6

// sector is the record as the bytes of a sector: its kind and how many lines it has, a byte each, then its numbers, and
// noughts up to the end.
func (r Record) sector() string {
	text := string([]byte{byte(r.Kind), byte(len(r.Lines))})
	text += numberText(r.Number)
	text += numberText(r.Day)
	for _, line := range r.Lines {
		text += numberText(line.Account)
		text += numberText(line.Amount)
	}
	for len(text) < api.SectorSize {
		text += "\x00"
	}
	return text
}

// numberText lifts a number by MaxAmount, so that none is below 0, and has its lowest byte first.
func numberText(number int) string {
	rest := number + api.MaxAmount
	var bytes []byte
	for i := 0; i < numberSize; i++ {
		bytes = append(bytes, byte(rest%256))
		rest /= 256
	}
	return string(bytes)
}

// reader goes over the bytes of a sector once. Behind their end it finds noughts.
type reader struct {
	text string
	at   int
}

// read takes a sector for a record, whatever its bytes are: it is the record only if the record's own sector is this
// one.
func read(sector string) Record {
	r := &reader{text: sector}
	kind := r.next()
	count := r.next()
	number := r.number()
	day := r.number()
	var lines []api.Line
	for i := 0; i < int(count) && i < api.MaxLines; i++ {
		account := r.number()
		amount := r.number()
		lines = append(lines, api.Line{Account: account, Amount: amount})
	}
	return Record{Kind: Kind(kind), Number: number, Day: day, Lines: lines}
}

func (r *reader) next() byte {
	if r.at < 0 || r.at >= len(r.text) {
		return 0
	}
	found := r.text[r.at]
	r.at++
	return found
}

func (r *reader) number() int {
	lifted := 0
	worth := 1
	for i := 0; i < numberSize; i++ {
		found := r.next()
		lifted += int(found) * worth
		worth *= 256
	}
	return lifted - api.MaxAmount
}
