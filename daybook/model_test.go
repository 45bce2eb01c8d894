package daybook_test

import (
	"math/big"
	"math/rand"
	"strconv"
	"strings"
	"testing"

	"daybook/api"
	"daybook/daybook"
)

// model: what a book must know, told anew by the words of P6 to P9, each call as the list of what would refuse it.
type model struct {
	parents []int
	closed  map[int]bool
	journal []string // as P6 writes them
	ids     map[int]string
	sums    map[int]*big.Int
}

func newModel() *model {
	return &model{closed: map[int]bool{}, ids: map[int]string{}, sums: map[int]*big.Int{}}
}

// reason: an error, and whether it applies.
type reason struct {
	applies bool
	errno   api.Errno
}

func first(reasons ...reason) api.Errno {
	for _, r := range reasons {
		if r.applies {
			return r.errno
		}
	}
	return api.OK
}

func (m *model) has(account int) bool { return account >= 0 && account <= len(m.parents) }

func (m *model) open(parent int) (int, api.Errno) {
	e := first(reason{!m.has(parent), api.ErrAccount}, reason{m.closed[parent], api.ErrClosed}, reason{len(m.parents)+1 == 16, api.ErrFull})
	if e != api.OK {
		return 0, e
	}
	m.parents = append(m.parents, parent)
	m.sums[len(m.parents)] = new(big.Int)
	return len(m.parents), api.OK
}

func (m *model) close(account int) api.Errno {
	openBelow := false
	for i, parent := range m.parents {
		openBelow = openBelow || parent == account && !m.closed[i+1]
	}
	sum := m.sums[account]
	e := first(reason{!m.has(account) || account == 0, api.ErrAccount}, reason{m.closed[account], api.ErrClosed},
		reason{openBelow, api.ErrOpen}, reason{sum != nil && sum.Sign() != 0, api.ErrNonzero})
	if e == api.OK {
		m.closed[account] = true
	}
	return e
}

func (m *model) post(id int, day int, list []api.Line) api.Errno {
	text := strconv.Itoa(id) + ":" + strconv.Itoa(day)
	sum := new(big.Int)
	wrongAmount, wrongAccount, closed := false, false, false
	for _, line := range list {
		text += "," + strconv.Itoa(line.Account) + ":" + strconv.Itoa(line.Amount)
		sum.Add(sum, big.NewInt(int64(line.Amount)))
		size := new(big.Int).Abs(big.NewInt(int64(line.Amount)))
		wrongAmount = wrongAmount || size.Sign() == 0 || size.Cmp(big.NewInt(1000000000000)) > 0
		wrongAccount = wrongAccount || !m.has(line.Account) || line.Account == 0
		closed = closed || m.closed[line.Account]
	}
	there, twice := m.ids[id]
	if there == text && twice {
		return api.OK
	}
	e := first(reason{id < 0 || id > 9999, api.ErrId}, reason{twice, api.ErrTwice}, reason{day < 0 || day > 999, api.ErrDay},
		reason{len(list) < 2 || len(list) > 4, api.ErrLines}, reason{wrongAmount, api.ErrAmount}, reason{wrongAccount, api.ErrAccount},
		reason{closed, api.ErrClosed}, reason{sum.Sign() != 0, api.ErrBalance}, reason{len(m.journal) == 64, api.ErrFull})
	if e == api.OK {
		m.ids[id] = text
		m.journal = append(m.journal, text)
		for _, line := range list {
			m.sums[line.Account].Add(m.sums[line.Account], big.NewInt(int64(line.Amount)))
		}
	}
	return e
}

func (m *model) accounts() string {
	var list []string
	for i, parent := range m.parents {
		text := strconv.Itoa(parent)
		if m.closed[i+1] {
			text += "x"
		}
		list = append(list, text)
	}
	return strings.Join(list, ",")
}

// someAccount: mostly one of the book's.
func (m *model) someAccount(r *rand.Rand) int {
	switch r.Intn(12) {
	case 0:
		return strange[r.Intn(len(strange))]
	case 1:
		return r.Intn(20)
	}
	return r.Intn(len(m.parents) + 1)
}

func someAmount(r *rand.Rand) int {
	switch r.Intn(12) {
	case 0:
		return strange[r.Intn(len(strange))]
	case 1:
		return []int{0, api.MaxAmount, -api.MaxAmount, api.MaxAmount + 1, -api.MaxAmount - 1}[r.Intn(5)]
	}
	return r.Intn(7) - 3
}

// someLines: mostly two to four that sum to nothing, with spare room behind them that must stay as it is.
func (m *model) someLines(r *rand.Rand) []api.Line {
	count := 2 + r.Intn(3)
	if r.Intn(8) == 0 {
		count = r.Intn(7)
	}
	list := make([]api.Line, count, count+3)
	sum := 0
	for i := range list {
		list[i] = api.Line{Account: m.someAccount(r), Amount: someAmount(r)}
		sum += list[i].Amount
	}
	if count > 0 && r.Intn(8) > 0 {
		list[count-1].Amount -= sum
	}
	return list
}

func someId(r *rand.Rand) int {
	switch r.Intn(20) {
	case 0:
		return strange[r.Intn(len(strange))]
	case 1:
		return []int{0, api.MaxId, api.MaxId + 1}[r.Intn(3)]
	}
	return r.Intn(120)
}

func someDay(r *rand.Rand) int {
	switch r.Intn(20) {
	case 0:
		return strange[r.Intn(len(strange))]
	case 1:
		return []int{api.MaxDay, api.MaxDay + 1}[r.Intn(2)]
	}
	return r.Intn(3)
}

// pair: a book and what it must know; last is what was posted to it last, to be posted again.
type pair struct {
	book    *daybook.Book
	model   *model
	id, day int
	last    []api.Line
}

func (p *pair) post(t *testing.T, r *rand.Rand) api.Errno {
	id, day, list := someId(r), someDay(r), p.model.someLines(r)
	if r.Intn(6) == 0 {
		id, day, list = p.id, p.day, append([]api.Line{}, p.last...)
	}
	want := p.model.post(id, day, list)
	if want == api.OK {
		p.id, p.day, p.last = id, day, append([]api.Line{}, list...)
	}
	whole := list[:cap(list)]
	before := append([]api.Line{}, whole...)
	if e := p.book.Post(id, day, list); e != want {
		t.Errorf("P9: Post(%d, %d, %v) = %d, want %d", id, day, list, e, want)
	}
	for i := range whole {
		if whole[i] != before[i] {
			t.Errorf("P2: Post(%d, %d, %v) has changed line %d, was %v", id, day, list, i, before[i])
		}
		whole[i] = api.Line{Account: 1, Amount: 1}
	}
	return want
}

// step makes a call at random, and answers what came of it.
func (p *pair) step(t *testing.T, r *rand.Rand) api.Errno {
	account := p.model.someAccount(r)
	switch r.Intn(10) {
	case 0:
		n, want := p.model.open(account)
		if m, e := p.book.Open(account); m != n || e != want {
			t.Errorf("P7: Open(%d) = %d, %d, want %d, %d", account, m, e, n, want)
		}
		return want
	case 1:
		want := p.model.close(account)
		if e := p.book.Close(account); e != want {
			t.Errorf("P8: Close(%d) = %d, want %d", account, e, want)
		}
		return want
	}
	return p.post(t, r)
}

// TestBooksAtRandom goes from book to book, so that what one knew of another would show.
func TestBooksAtRandom(t *testing.T) {
	r := rand.New(rand.NewSource(9))
	seen := map[api.Errno]int{}
	for range 40 {
		books := make([]pair, 3)
		for i := range books {
			books[i] = pair{book: daybook.New(), model: newModel()}
		}
		for range 2000 {
			p := &books[r.Intn(len(books))]
			seen[p.step(t, r)]++
			if t.Failed() {
				return
			}
			mustTell(t, p.book, p.model.accounts(), strings.Join(p.model.journal, ";"))
		}
		for _, p := range books {
			mustTell(t, p.book, p.model.accounts(), strings.Join(p.model.journal, ";"))
		}
	}
	for e := api.ErrAccount; e <= api.ErrBalance; e++ {
		if seen[e] < 20 {
			t.Errorf("the error %d has come up %d times only", e, seen[e])
		}
	}
}
