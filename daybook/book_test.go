package daybook_test

import (
	"math"
	"strings"
	"testing"

	"daybook/api"
	"daybook/daybook"
)

// strange: numbers that no account of any book has; most of them are no id and no day, either.
var strange = []int{-1, -2, math.MinInt, math.MinInt + 1, math.MaxInt, math.MaxInt - 1, 1 << 32, -1 << 32, 1<<32 + 1, 1 << 16, 1 << 8}

// lines: lines out of accounts and amounts, one behind the other.
func lines(numbers ...int) []api.Line {
	var list []api.Line
	for i := 0; i+1 < len(numbers); i += 2 {
		list = append(list, api.Line{Account: numbers[i], Amount: numbers[i+1]})
	}
	return list
}

// bookOf: a book with an account below each of these parents.
func bookOf(t *testing.T, parents ...int) *daybook.Book {
	t.Helper()
	b := daybook.New()
	if b == nil {
		t.Fatal("P6: New() = nil")
	}
	for i, parent := range parents {
		mustOpen(t, b, parent, i+1)
	}
	return b
}

func mustOpen(t *testing.T, b *daybook.Book, parent int, want int) {
	t.Helper()
	if n, e := b.Open(parent); n != want || e != api.OK {
		t.Fatalf("P7: Open(%d) = %d, %d, want %d", parent, n, e, want)
	}
}

// mustNotOpen asks, too, that nothing has changed.
func mustNotOpen(t *testing.T, b *daybook.Book, parent int, want api.Errno) {
	t.Helper()
	accounts, journal := b.Accounts(), b.Journal()
	if n, e := b.Open(parent); n != 0 || e != want {
		t.Errorf("P7: Open(%d) = %d, %d, want %d", parent, n, e, want)
	}
	mustTell(t, b, accounts, journal)
}

// mustClose asks, too, that with an error nothing has changed.
func mustClose(t *testing.T, b *daybook.Book, account int, want api.Errno) {
	t.Helper()
	accounts, journal := b.Accounts(), b.Journal()
	if e := b.Close(account); e != want {
		t.Errorf("P8: Close(%d) = %d, want %d", account, e, want)
	}
	if want != api.OK {
		mustTell(t, b, accounts, journal)
	}
}

// mustPost asks, too, that with an error nothing has changed.
func mustPost(t *testing.T, b *daybook.Book, id int, day int, list []api.Line, want api.Errno) {
	t.Helper()
	accounts, journal := b.Accounts(), b.Journal()
	if e := b.Post(id, day, list); e != want {
		t.Errorf("P9: Post(%d, %d, %.200v) = %d, want %d", id, day, list, e, want)
	}
	if want != api.OK {
		mustTell(t, b, accounts, journal)
	}
}

func mustTell(t *testing.T, b *daybook.Book, accounts string, journal string) {
	t.Helper()
	if text := b.Accounts(); text != accounts {
		t.Errorf("P6: Accounts() = %q, want %q", text, accounts)
	}
	if text := b.Journal(); text != journal {
		t.Errorf("P6: Journal() = %q, want %q", text, journal)
	}
}

func TestTheBookOfTheExamples(t *testing.T) {
	b := bookOf(t, 0, 1, 0)
	mustTell(t, b, "0,1,0", "")
	mustPost(t, b, 7, 10, lines(1, 500, 3, -500), api.OK)
	mustPost(t, b, 7, 10, lines(1, 500, 3, -500), api.OK)
	mustPost(t, b, 7, 11, lines(1, 500, 3, -500), api.ErrTwice)
	mustPost(t, b, 8, 40, lines(2, 70, 3, -70), api.OK)
	mustTell(t, b, "0,1,0", "7:10,1:500,3:-500;8:40,2:70,3:-70")
	mustClose(t, b, 2, api.ErrNonzero)
	mustClose(t, b, 1, api.ErrOpen)
	mustClose(t, b, 0, api.ErrAccount)
	mustTell(t, b, "0,1,0", "7:10,1:500,3:-500;8:40,2:70,3:-70")
}

func TestANewBookIsEmpty(t *testing.T) {
	b := bookOf(t)
	mustTell(t, b, "", "")
	// it has account 0 alone: one can open below it, but neither close it nor post to it
	mustClose(t, b, 0, api.ErrAccount)
	mustPost(t, b, 0, 0, lines(0, 1, 0, -1), api.ErrAccount)
	mustNotOpen(t, b, 1, api.ErrAccount)
	mustOpen(t, b, 0, 1)
	mustTell(t, b, "0", "")
}

func TestAccountsTell(t *testing.T) {
	b := bookOf(t, 0, 1, 2, 3, 4, 5, 6, 7, 8, 9, 10, 11, 12, 13, 14)
	mustTell(t, b, "0,1,2,3,4,5,6,7,8,9,10,11,12,13,14", "")
	mustClose(t, b, 15, api.OK)
	mustTell(t, b, "0,1,2,3,4,5,6,7,8,9,10,11,12,13,14x", "")
	for n := 14; n > 0; n-- {
		mustClose(t, b, n, api.OK)
	}
	mustTell(t, b, "0x,1x,2x,3x,4x,5x,6x,7x,8x,9x,10x,11x,12x,13x,14x", "")
	b = bookOf(t, 0, 0, 0)
	mustClose(t, b, 1, api.OK)
	mustTell(t, b, "0x,0,0", "")
	mustClose(t, b, 2, api.OK)
	mustTell(t, b, "0x,0x,0", "")
}

func TestJournalTells(t *testing.T) {
	b := bookOf(t, 0, 1, 0)
	mustPost(t, b, 9999, 999, lines(3, 1000000000000, 1, -1000000000000), api.OK)
	mustTell(t, b, "0,1,0", "9999:999,3:1000000000000,1:-1000000000000")
	// neither the ids nor the days nor the accounts set the order
	mustPost(t, b, 0, 0, lines(2, -7, 1, 10, 2, -7, 3, 4), api.OK)
	mustPost(t, b, 100, 10, lines(1, -1, 1, 3, 1, -2), api.OK)
	mustTell(t, b, "0,1,0", "9999:999,3:1000000000000,1:-1000000000000;0:0,2:-7,1:10,2:-7,3:4;100:10,1:-1,1:3,1:-2")
}

func TestOpenGoesUpToMaxAccounts(t *testing.T) {
	b := bookOf(t, 0, 0)
	mustClose(t, b, 2, api.OK)
	for n := 3; n < api.MaxAccounts; n++ {
		mustOpen(t, b, n%2, n)
	}
	mustNotOpen(t, b, 0, api.ErrFull)
	mustNotOpen(t, b, api.MaxAccounts-1, api.ErrFull)
	// ErrAccount and ErrClosed are named first
	mustNotOpen(t, b, api.MaxAccounts, api.ErrAccount)
	mustNotOpen(t, b, -1, api.ErrAccount)
	mustNotOpen(t, b, 2, api.ErrClosed)
	// a closed account goes on taking up room
	mustClose(t, b, api.MaxAccounts-1, api.OK)
	mustNotOpen(t, b, 0, api.ErrFull)
	mustTell(t, b, "0,0x,1,0,1,0,1,0,1,0,1,0,1,0,1x", "")
}

func TestOpenRefuses(t *testing.T) {
	b := bookOf(t, 0, 0)
	for _, parent := range append([]int{3, 4, 15, 16}, strange...) {
		mustNotOpen(t, b, parent, api.ErrAccount)
	}
	mustClose(t, b, 1, api.OK)
	mustNotOpen(t, b, 1, api.ErrClosed)
	mustOpen(t, b, 2, 3)
	mustTell(t, b, "0x,0,2", "")
}

func TestCloseRefuses(t *testing.T) {
	b := bookOf(t, 0, 1, 2, 0, 1, 0)
	for _, account := range append([]int{0, 7, 15, 16}, strange...) {
		mustClose(t, b, account, api.ErrAccount)
	}
	mustPost(t, b, 1, 1, lines(1, 5, 3, -5), api.OK)
	// ErrOpen is named ahead of ErrNonzero
	mustClose(t, b, 1, api.ErrOpen)
	// lines of accounts below do not count, open accounts right below do
	mustClose(t, b, 2, api.ErrOpen)
	mustClose(t, b, 3, api.ErrNonzero)
	mustPost(t, b, 2, 1, lines(3, 3, 3, 2, 4, -5), api.OK)
	mustClose(t, b, 3, api.OK)
	mustClose(t, b, 3, api.ErrClosed)
	mustClose(t, b, 2, api.OK)
	// one of two below is closed
	mustClose(t, b, 1, api.ErrOpen)
	mustClose(t, b, 5, api.OK)
	mustClose(t, b, 1, api.ErrNonzero)
	mustPost(t, b, 3, 999, lines(4, 5, 1, -5), api.OK)
	mustClose(t, b, 1, api.OK)
	mustClose(t, b, 1, api.ErrClosed)
	mustClose(t, b, 4, api.OK)
	mustTell(t, b, "0x,1x,2x,0x,1x,0", "1:1,1:5,3:-5;2:1,3:3,3:2,4:-5;3:999,4:5,1:-5")
}

func TestCloseAsksForTheAccountsOwnLinesAlone(t *testing.T) {
	b := bookOf(t, 0, 1, 0, 0)
	// 1 and 2 sum to nothing together, not each; what lies below is not its own
	mustPost(t, b, 1, 1, lines(1, 5, 2, -5), api.OK)
	mustClose(t, b, 2, api.ErrNonzero)
	mustPost(t, b, 2, 2, lines(2, 5, 3, -5), api.OK)
	mustClose(t, b, 2, api.OK)
	mustClose(t, b, 1, api.ErrNonzero)
	mustPost(t, b, 3, 3, lines(1, -5, 4, 5), api.OK)
	mustClose(t, b, 1, api.OK)
	// no day and no place in the journal is left out, be it the greatest sums
	b = bookOf(t, 0, 0)
	for i := range api.MaxPosts / 2 {
		mustPost(t, b, i, 0, lines(1, api.MaxAmount, 2, -api.MaxAmount, 1, api.MaxAmount, 2, -api.MaxAmount), api.OK)
	}
	for i := range api.MaxPosts / 2 {
		mustClose(t, b, 1, api.ErrNonzero)
		mustClose(t, b, 2, api.ErrNonzero)
		mustPost(t, b, 1000+i, api.MaxDay, lines(2, api.MaxAmount, 1, -api.MaxAmount, 2, api.MaxAmount, 1, -api.MaxAmount), api.OK)
	}
	mustClose(t, b, 1, api.OK)
	mustClose(t, b, 2, api.OK)
}

func TestBooksKnowNothingOfOneAnother(t *testing.T) {
	a, b := bookOf(t, 0, 1), bookOf(t, 0)
	mustPost(t, a, 1, 1, lines(1, 5, 2, -5), api.OK)
	mustTell(t, b, "0", "")
	mustPost(t, b, 1, 2, lines(1, 6, 1, -6), api.OK)
	mustClose(t, b, 1, api.OK)
	mustTell(t, a, "0,1", "1:1,1:5,2:-5")
	mustTell(t, b, "0x", "1:2,1:6,1:-6")
	mustOpen(t, a, 1, 3)
	mustOpen(t, b, 0, 2)
	mustTell(t, a, "0,1,1", "1:1,1:5,2:-5")
	mustTell(t, b, "0x,0", "1:2,1:6,1:-6")
	mustTell(t, bookOf(t), "", "")
}

func TestAFullBookTells(t *testing.T) {
	b := bookOf(t, 0, 0, 0, 0, 0, 0, 0, 0, 0, 0, 0, 0, 0, 0, 0)
	var journal []string
	for range api.MaxPosts {
		id := api.MaxId - len(journal)
		mustPost(t, b, id, api.MaxDay, lines(15, api.MaxAmount, 14, -api.MaxAmount, 13, api.MaxAmount, 12, -api.MaxAmount), api.OK)
		journal = append(journal, number(id)+":999,15:1000000000000,14:-1000000000000,13:1000000000000,12:-1000000000000")
	}
	mustTell(t, b, "0,0,0,0,0,0,0,0,0,0,0,0,0,0,0", strings.Join(journal, ";"))
}
