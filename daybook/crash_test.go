package daybook_test

import (
	"maps"
	"math/big"
	"math/rand"
	"strings"
	"testing"

	"daybook/api"
	"daybook/daybook"
)

// TestCrashOfALongLog: a book that is asked for its writes at the end alone; a crash behind each of them.
func TestCrashOfALongLog(t *testing.T) {
	b, twin := daybook.New(), daybook.New()
	states := []string{told(twin)}
	ends := []int{len(twin.Writes())}
	for _, s := range script {
		s.do(b)
		s.do(twin)
		states = append(states, told(twin))
		ends = append(ends, ends[len(ends)-1]+len(twin.Writes()))
	}
	d := &drive{safe: noughts}
	log := b.Writes()
	if len(log) != ends[len(ends)-1] {
		t.Fatalf("P11: %d writes, want %d", len(log), ends[len(ends)-1])
	}
	from := 0
	for i, end := range ends {
		before := states[max(i-1, 0)]
		d.keep(t, log[from:end], before, states[i])
		from = end
	}
}

// next: the calls that are tried behind each crash. Whether one is refused hangs on what the crash has left.
var next = []call{
	opening(0), opening(1), closing(1), closing(2), posting(1, 1, 1, 5, 2, -5), posting(2, 999, 1, -5, 2, 5),
	posting(3, 0, 1, api.MaxAmount, 1, -api.MaxAmount, 2, -1, 2, 1),
}

// crashInARow crashes each of the next calls everywhere, then the same with each image that is left, and so on.
func crashInARow(t *testing.T, image string, want string, depth int) int {
	t.Helper()
	count := 0
	for _, do := range next {
		b := mustMount(t, image)
		if got := told(b); got != want {
			t.Fatalf("P12: %q, want %q", got, want)
		}
		d := &drive{safe: image}
		d.keep(t, b.Writes(), want, want)
		e := do(b)
		log := b.Writes()
		if (e != api.OK || told(b) == want) && len(log) > 0 {
			t.Fatalf("P1, P9: a call that changes nothing writes %#v", log)
		}
		seen := map[string]bool{image: true}
		for _, left := range d.keep(t, log, want, told(b)) {
			if depth > 1 && !seen[left] {
				seen[left] = true
				count += crashInARow(t, left, told(mustMount(t, left)), depth-1)
			}
			count++
		}
	}
	return count
}

func TestCrashesInARow(t *testing.T) {
	if count := crashInARow(t, noughts, "|", 6); count < 1000 {
		t.Errorf("only %d crashes were tried", count)
	}
	b := bookOf(t, 0, 1, 0)
	mustPost(t, b, 9, 9, lines(1, 7, 2, -7), api.OK)
	mustClose(t, b, 3, api.OK)
	crashInARow(t, laidAll(t, noughts, b.Writes()), told(b), 4)
}

// TestTheSameCallCrashesAgainAndAgain: what was lost is called again behind each Mount, until it has answered.
func TestTheSameCallCrashesAgainAndAgain(t *testing.T) {
	image := noughts
	for i, s := range script {
		for range 3 {
			b := mustMount(t, image)
			before := told(b)
			d := &drive{safe: image}
			d.keep(t, b.Writes(), before, before)
			s.do(b)
			for _, left := range d.keep(t, b.Writes(), before, told(b)) {
				if told(mustMount(t, left)) == before {
					image = left
				}
			}
		}
		b := mustMount(t, image)
		log := b.Writes()
		if e := s.do(b); e != s.want {
			t.Fatalf("P12: call %d behind three crashes: %d, want %d", i, e, s.want)
		}
		image = laidAll(t, image, append(log, b.Writes()...))
	}
	if want := "0x,1x,0x,3x,0|7:10,1:500,3:-500;8:40,2:70,3:-70;9:41,2:-30,3:60,2:-40,1:10;9999:999,1:-510,3:510"; told(mustMount(t, image)) != want {
		t.Errorf("P12: %q, want %q", told(mustMount(t, image)), want)
	}
}

func (m *model) clone() *model {
	c := &model{parents: append([]int{}, m.parents...), closed: maps.Clone(m.closed), journal: append([]string{}, m.journal...), ids: maps.Clone(m.ids), sums: map[int]*big.Int{}}
	for n, sum := range m.sums {
		c.sums[n] = new(big.Int).Set(sum)
	}
	return c
}

func (m *model) told() string { return m.accounts() + "|" + strings.Join(m.journal, ";") }

// crashing: a pair whose book lies on a drive.
type crashing struct {
	pair
	drive drive
}

// step makes a call at random with a crash at each place of it, and at times goes on from what one of them has left.
func (c *crashing) step(t *testing.T, r *rand.Rand) {
	before := c.model.clone()
	e := c.pair.step(t, r)
	log := c.book.Writes()
	if changes := before.told() != c.model.told(); changes != (len(log) > 0) {
		t.Fatalf("P1, P9, P11: a call that answers %d, %d writes: it was %q, is %q", e, len(log), before.told(), c.model.told())
	}
	left := c.drive.keep(t, log, before.told(), c.model.told())
	if r.Intn(3) > 0 {
		return
	}
	image := left[r.Intn(len(left))]
	c.book = mustMount(t, image)
	c.drive = drive{safe: image}
	if told(c.book) == before.told() {
		c.model = before
	}
	c.drive.keep(t, c.book.Writes(), c.model.told(), c.model.told())
}

// TestCrashesAtRandom goes from book to book, each of which must do by its model whatever crashes lie behind it.
func TestCrashesAtRandom(t *testing.T) {
	r := rand.New(rand.NewSource(12))
	for range 12 {
		books := make([]crashing, 2)
		for i := range books {
			books[i] = crashing{pair: pair{book: daybook.New(), model: newModel()}, drive: drive{safe: noughts}}
		}
		for k := range 1200 {
			c := &books[r.Intn(len(books))]
			c.step(t, r)
			if t.Failed() {
				return
			}
			mustTell(t, c.book, c.model.accounts(), strings.Join(c.model.journal, ";"))
			if k%20 == 0 {
				c.mustReport(t, r)
			}
		}
	}
}

// mustReport asks a mounted book for a report: P10 holds there, too.
func (c *crashing) mustReport(t *testing.T, r *rand.Rand) {
	t.Helper()
	u := makeUp(r, len(c.model.parents)+1)
	text, e := c.book.Report(u.text)
	if e == api.OK {
		if cells, _ := u.cells(c.model); text != asText(cells) {
			t.Errorf("P10: Report(%q) = %q, want %q", u.text, text, asText(cells))
		}
	}
	if again, f := mustMount(t, c.drive.left(-1)).Report(u.text); again != text || f != e {
		t.Errorf("P10, P12: Report(%q) = %q, %d, of the mounted book %q, %d", u.text, text, e, again, f)
	}
}

// fullBook: the calls that bring a book to the document's bounds: each account that there can be is opened below the
// one ahead of it, and closed in the end; the transactions have the greatest ids, days and amounts.
func fullBook() []call {
	var list []call
	for n := range api.MaxAccounts - 1 {
		list = append(list, opening(n))
	}
	for i := range api.MaxPosts {
		a, b := 1+i/2%14, 2+i/2%14
		amount := api.MaxAmount - 2*api.MaxAmount*(i%2)
		list = append(list, posting(api.MaxId-i, api.MaxDay, a, amount, b, -amount, a, amount, b, -amount))
	}
	for n := api.MaxAccounts - 1; n > 0; n-- {
		list = append(list, closing(n))
	}
	return list
}

func TestABookAtItsBoundsIsMountedAgain(t *testing.T) {
	for _, mounts := range []bool{false, true} { // the same book all along, and a mounted one for each call
		b := daybook.New()
		d := &drive{safe: noughts}
		for i, do := range fullBook() {
			before := told(b)
			d.keep(t, b.Writes(), before, before)
			if e := do(b); e != api.OK || told(b) == before {
				t.Fatalf("call %d: %d", i, e)
			}
			d.keep(t, b.Writes(), before, told(b))
			if mounts {
				b = mustMount(t, d.left(-1))
			}
		}
		mustBeFull(t, b)
		m := mustMount(t, d.left(-1))
		d.keep(t, m.Writes(), told(m), told(m))
		mustBeFull(t, m)
		if again := told(mustMount(t, d.left(-1))); again != told(b) {
			t.Errorf("P12: %q, want %q", again, told(b))
		}
	}
}

// mustBeFull asks, too, that nothing more can be done, and that what is refused or there already writes nothing.
func mustBeFull(t *testing.T, b *daybook.Book) {
	t.Helper()
	var journal []string
	for i := range api.MaxPosts {
		a, c := 1+i/2%14, 2+i/2%14
		more, less := ":1000000000000", ":-1000000000000"
		if i%2 == 1 {
			more, less = less, more
		}
		journal = append(journal, number(9999-i)+":999"+repeat(","+number(a)+more+","+number(c)+less, 2))
	}
	accounts := "0x,1x,2x,3x,4x,5x,6x,7x,8x,9x,10x,11x,12x,13x,14x"
	mustTell(t, b, accounts, strings.Join(journal, ";"))
	b.Writes()
	mustNotOpen(t, b, 0, api.ErrFull)
	for n := 1; n < api.MaxAccounts; n++ {
		mustNotOpen(t, b, n, api.ErrClosed)
		mustClose(t, b, n, api.ErrClosed)
	}
	mustNotOpen(t, b, api.MaxAccounts, api.ErrAccount)
	mustPost(t, b, 0, 0, lines(1, 1, 2, -1), api.ErrClosed)
	for i, do := range fullBook()[15:79] {
		if e := do(b); e != api.OK {
			t.Errorf("P9: transaction %d posted again: %d", i, e)
		}
	}
	mustPost(t, b, 9999, 999, lines(1, 1, 2, -1), api.ErrTwice)
	mustReport(t, b, "999-999,0-998|@0;#0;#1", "0,0;256,0;256,0")
	mustTell(t, b, accounts, strings.Join(journal, ";"))
	if l := b.Writes(); len(l) != 0 {
		t.Errorf("P11: a full book writes %#v", l)
	}
}

// TestAFullJournalIsMountedAgain: here ErrFull is the answer to a transaction, for the accounts are open.
func TestAFullJournalIsMountedAgain(t *testing.T) {
	b := bookOf(t, 0, 0, 0)
	for i := range api.MaxPosts {
		mustPost(t, b, i, 0, lines(1, -1, 2, -1, 3, 2), api.OK)
	}
	m := mustMount(t, laidAll(t, noughts, b.Writes()))
	mustTell(t, m, b.Accounts(), b.Journal())
	m.Writes()
	mustPost(t, m, 64, 0, lines(1, 1, 2, -1), api.ErrFull)
	mustPost(t, m, 63, 0, lines(1, -1, 2, -1, 3, 2), api.OK)
	mustClose(t, m, 1, api.ErrNonzero)
	if l := m.Writes(); len(l) != 0 {
		t.Errorf("P11: a full journal writes %#v", l)
	}
	mustOpen(t, m, 3, 4)
}

// TestNumbersOutliveAMount: the ends of what a transaction may hold, and those of the bytes in between.
func TestNumbersOutliveAMount(t *testing.T) {
	var sizes []int
	for size := 1; size < api.MaxAmount; size *= 2 {
		sizes = append(sizes, size, size+1, max(size-1, 1))
	}
	sizes = append(sizes, 1, 10, 1000000007, api.MaxAmount-1, api.MaxAmount)
	ids := []int{0, 1, 127, 128, 255, 256, 257, 4095, 4096, 8191, 8192, 9998, 9999}
	days := []int{0, 1, 127, 128, 255, 256, 511, 512, 998, 999}
	for i, size := range sizes {
		b := bookOf(t, 0, 1, 2, 3, 4, 5, 6, 7, 8, 9, 10, 11, 12, 13, 14)
		for k, id := range ids {
			account := 1 + (i+k)%15
			list := lines(account, -size, 16-account, size)
			if k%3 == 1 && size > 1 {
				list = lines(account, size, 15, 1-size, 1, -1)
			}
			if k%3 == 2 {
				list = lines(1, size, account, -size, 15, -size, account, size)
			}
			mustPost(t, b, id, days[(i+k)%len(days)], list, api.OK)
		}
		m := mustMount(t, laidAll(t, noughts, b.Writes()))
		mustTell(t, m, b.Accounts(), b.Journal())
	}
}

// TestTreesOutliveAMount: each account below each other.
func TestTreesOutliveAMount(t *testing.T) {
	for parent := range api.MaxAccounts - 1 {
		b := daybook.New()
		for n := range parent {
			mustOpen(t, b, n/2, n+1)
		}
		for n := parent; n < api.MaxAccounts-1; n++ {
			mustOpen(t, b, parent, n+1)
		}
		mustClose(t, b, 15, api.OK)
		if parent == 0 {
			mustClose(t, b, 1, api.OK)
		}
		m := mustMount(t, laidAll(t, noughts, b.Writes()))
		mustTell(t, m, b.Accounts(), "")
		mustNotOpen(t, m, 15, api.ErrClosed)
		mustNotOpen(t, m, parent, api.ErrFull)
	}
}
