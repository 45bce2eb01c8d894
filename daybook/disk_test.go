package daybook_test

import (
	"testing"

	"daybook/api"
	"daybook/daybook"
)

const diskSize = 128 * 64

var noughts = repeat("\x00", diskSize)

func isFlush(w api.Write) bool { return w.Sector == -1 && w.Data == "" }

// drive: a disk that may lose its power. Of the writes behind the last flush nobody knows which are on it.
type drive struct {
	safe  string
	loose []api.Write
}

func (d *drive) take(t *testing.T, w api.Write) {
	t.Helper()
	if isFlush(w) {
		d.safe, d.loose = d.left(-1), nil
		return
	}
	if w.Sector < 0 || w.Sector >= 128 || len(w.Data) != 64 {
		t.Fatalf("P11: a write of %d bytes to the sector %d", len(w.Data), w.Sector)
	}
	d.loose = append(append([]api.Write{}, d.loose...), w)
}

// left: the image with those of the loose writes on it whose bits the choice has.
func (d *drive) left(choice int) string {
	image := []byte(d.safe)
	for i, w := range d.loose {
		if choice>>i&1 == 1 {
			copy(image[64*w.Sector:], w.Data)
		}
	}
	return string(image)
}

// images: all that a crash can leave, each once.
func (d *drive) images(t *testing.T) []string {
	t.Helper()
	if len(d.loose) > 12 {
		t.Fatalf("%d writes without a flush are too many to try all choices", len(d.loose))
	}
	seen := map[string]bool{}
	var list []string
	for choice := range 1 << len(d.loose) {
		image := d.left(choice)
		if !seen[image] {
			seen[image] = true
			list = append(list, image)
		}
	}
	return list
}

func told(b *daybook.Book) string { return b.Accounts() + "|" + b.Journal() }

func mustMount(t *testing.T, image string) *daybook.Book {
	t.Helper()
	b, e := daybook.Mount(image)
	if b == nil || e != api.OK {
		t.Fatalf("P12: Mount: %v, %d", b != nil, e)
	}
	return b
}

// keep lays what a book has written onto a drive and asks for a crash at each place: ahead of the first write it has
// left what was told before, behind the last what is told after, and in between one of them. It answers all images
// that these crashes leave.
func (d *drive) keep(t *testing.T, log []api.Write, before, after string) []string {
	t.Helper()
	var all []string
	for place := range len(log) + 1 {
		if place > 0 {
			d.take(t, log[place-1])
		}
		for _, image := range d.images(t) {
			got := told(mustMount(t, image))
			mayBeBefore := place < len(log) || before == after
			mayBeAfter := place > 0 || before == after
			if !(got == before && mayBeBefore) && !(got == after && mayBeAfter) {
				t.Fatalf("P12: a crash behind %d of %d writes has left %q; it was %q before the call, %q after it", place, len(log), got, before, after)
			}
			all = append(all, image)
		}
	}
	return all
}

// call: something that is asked of a book.
type call func(b *daybook.Book) api.Errno

func opening(parent int) call {
	return func(b *daybook.Book) api.Errno { _, e := b.Open(parent); return e }
}

func closing(account int) call {
	return func(b *daybook.Book) api.Errno { return b.Close(account) }
}

func posting(id int, day int, numbers ...int) call {
	return func(b *daybook.Book) api.Errno { return b.Post(id, day, lines(numbers...)) }
}

func reporting(text string) call {
	return func(b *daybook.Book) api.Errno { _, e := b.Report(text); return e }
}

// script: calls that change something, calls that are refused, and transactions that are posted again.
var script = []struct {
	do     call
	want   api.Errno
	writes bool
}{
	{opening(1), api.ErrAccount, false}, {closing(0), api.ErrAccount, false}, {posting(0, 0), api.ErrLines, false}, {opening(0), api.OK, true},
	{opening(1), api.OK, true}, {opening(0), api.OK, true}, {opening(4), api.ErrAccount, false}, {opening(-1), api.ErrAccount, false},
	{posting(7, 10, 1, 500, 3, -500), api.OK, true}, {posting(7, 10, 1, 500, 3, -500), api.OK, false}, {posting(7, 11, 1, 500, 3, -500), api.ErrTwice, false},
	{posting(7, 10, 3, -500, 1, 500), api.ErrTwice, false}, {posting(-1, 10, 1, 5, 3, -5), api.ErrId, false}, {posting(8, 1000, 1, 5, 3, -5), api.ErrDay, false},
	{posting(8, 40, 1, 5), api.ErrLines, false}, {posting(8, 40, 1, 0, 3, 0), api.ErrAmount, false}, {posting(8, 40, 0, 5, 3, -5), api.ErrAccount, false},
	{posting(8, 40, 1, 5, 3, -4), api.ErrBalance, false}, {posting(8, 40, 2, 70, 3, -70), api.OK, true}, {closing(2), api.ErrNonzero, false},
	{closing(1), api.ErrOpen, false}, {posting(9, 41, 2, -30, 3, 60, 2, -40, 1, 10), api.OK, true}, {closing(2), api.OK, true},
	{closing(2), api.ErrClosed, false}, {opening(2), api.ErrClosed, false}, {posting(10, 1, 2, 1, 1, -1), api.ErrClosed, false},
	{posting(8, 40, 2, 70, 3, -70), api.OK, false}, {posting(7, 10, 1, 500, 3, -500), api.OK, false}, {reporting("0-99|@1;#0"), api.OK, false},
	{reporting("0-99|@9"), api.ErrAccount, false}, {reporting("0-99|"), api.ErrForm, false}, {opening(3), api.OK, true}, {closing(4), api.OK, true},
	{posting(9999, 999, 1, -510, 3, 510), api.OK, true}, {closing(3), api.OK, true}, {closing(1), api.OK, true}, {opening(0), api.OK, true},
}

// TestWhatWrites: those calls of the script that change something, and they alone, write; all of it is flushed at the
// end of the call, and is all that a Mount needs.
func TestWhatWrites(t *testing.T) {
	b := daybook.New()
	d := &drive{safe: noughts}
	d.keep(t, b.Writes(), "|", "|")
	for i, s := range script {
		before := told(b)
		if e := s.do(b); e != s.want {
			t.Fatalf("call %d: %d, want %d", i, e, s.want)
		}
		log := b.Writes()
		if (len(log) > 0) != s.writes || (told(b) != before) != s.writes {
			t.Errorf("P11: call %d: %d writes, told %q, then %q", i, len(log), before, told(b))
		}
		if s.writes && !isFlush(log[len(log)-1]) {
			t.Errorf("P11: call %d: behind the last write stands no flush", i)
		}
		d.keep(t, log, before, told(b))
		if len(d.loose) > 0 {
			t.Errorf("P11: call %d has answered, and %d writes are not flushed", i, len(d.loose))
		}
		if got := told(mustMount(t, d.safe)); got != told(b) {
			t.Errorf("P11, P12: behind call %d the disk has %q, want %q", i, got, told(b))
		}
	}
	if want := "0x,1x,0x,3x,0|7:10,1:500,3:-500;8:40,2:70,3:-70;9:41,2:-30,3:60,2:-40,1:10;9999:999,1:-510,3:510"; told(b) != want {
		t.Errorf("P6: %q, want %q", told(b), want)
	}
}

// TestWhatOnlyAsksWritesNothing: neither in a book that is new nor in one that is mounted.
func TestWhatOnlyAsksWritesNothing(t *testing.T) {
	b := exampleBook(t)
	image := laidAll(t, noughts, b.Writes())
	m := mustMount(t, image)
	m.Writes()
	for i, book := range []*daybook.Book{b, m} {
		book.Accounts()
		book.Journal()
		for _, text := range []string{"0-30,31-60|@1;#1;$0-<0;@1/@2;!1", "0-9|@15", "", "0-9|1/0"} {
			book.Report(text)
			daybook.Check(text)
			daybook.Show(text)
			daybook.Compile(text)
		}
		daybook.New()
		daybook.Mount(image)
		daybook.Mount("")
		for range 3 {
			if l := book.Writes(); len(l) != 0 {
				t.Errorf("P11: book %d: what only asks writes %#v", i, l)
			}
		}
	}
}

// TestABookBeginsWithNothingToWrite: New and Mount may write, but a disk is as these need it already.
func TestABookBeginsWithNothingToWrite(t *testing.T) {
	books := []*daybook.Book{daybook.New(), mustMount(t, noughts), mustMount(t, scriptImage(t)), mustMount(t, fullImage(t))}
	for i, b := range books {
		if l := b.Writes(); len(l) != 0 {
			t.Errorf("book %d begins with %d writes", i, len(l))
		}
	}
}

// laidAll: an image behind all writes of a log.
func laidAll(t *testing.T, image string, log []api.Write) string {
	t.Helper()
	d := &drive{safe: image}
	for _, w := range log {
		d.take(t, w)
	}
	return d.left(-1)
}

// runScript makes the script's calls and asks for the writes behind each call of which asks says so, and at the end.
func runScript(b *daybook.Book, asks func(i int) bool) [][]api.Write {
	var logs [][]api.Write
	for i, s := range script {
		s.do(b)
		if asks(i) {
			logs = append(logs, b.Writes())
		}
	}
	return append(logs, b.Writes())
}

func joinLogs(logs [][]api.Write) []api.Write {
	var all []api.Write
	for _, l := range logs {
		all = append(all, l...)
	}
	return all
}

func sameWrites(a, b []api.Write) bool {
	if len(a) != len(b) {
		return false
	}
	for i := range a {
		if a[i] != b[i] {
			return false
		}
	}
	return true
}

// TestWritesTellsAllSinceItWasAskedLast: in their order and once, however seldom it is asked, and whatever was refused
// in between.
func TestWritesTellsAllSinceItWasAskedLast(t *testing.T) {
	whole := joinLogs(runScript(daybook.New(), func(int) bool { return true }))
	for every := 2; every <= len(script)+1; every++ {
		logs := runScript(daybook.New(), func(i int) bool { return i%every == every-1 })
		if got := joinLogs(logs); !sameWrites(got, whole) {
			t.Fatalf("P11: Writes behind every %d calls: %d writes in all, want %d", every, len(got), len(whole))
		}
	}
	b := bookOf(t, 0)
	want := bookOf(t, 0).Writes()
	mustNotOpen(t, b, 9, api.ErrAccount)
	mustPost(t, b, 1, 1, lines(1, 1), api.ErrLines)
	if got := b.Writes(); len(got) == 0 || !sameWrites(got, want) {
		t.Errorf("P11: behind refused calls Writes tells %#v, want %#v", got, want)
	}
}

// spoil writes into all of a list, and into its spare room.
func spoil(list []api.Write) {
	list = list[:cap(list)]
	for i := range list {
		list[i] = api.Write{Sector: 127, Data: repeat("\xee", 64)}
	}
}

// TestWritesGivesAFreshList: what its owner does with it, and the book later does, do not meet.
func TestWritesGivesAFreshList(t *testing.T) {
	for every := 1; every <= len(script); every++ {
		b := daybook.New()
		d := &drive{safe: noughts}
		var list, copied []api.Write
		for i, s := range script {
			s.do(b)
			if i%every != every-1 && i != len(script)-1 {
				continue
			}
			spoil(list[len(list):])
			next := b.Writes()
			if !sameWrites(list, copied) {
				t.Fatalf("P2: a list of Writes has changed later")
			}
			kept := append([]api.Write{}, next...)
			spoil(list)
			if !sameWrites(next, kept) {
				t.Fatalf("P2: what is written into one list of Writes shows in the next")
			}
			for _, w := range next {
				d.take(t, w)
			}
			list, copied = next, kept
		}
		if got := told(mustMount(t, d.left(-1))); got != told(b) {
			t.Fatalf("P2, P12: asked behind every %d calls: %q, want %q", every, got, told(b))
		}
		spoil(list)
		mustOpen(t, b, 0, 6)
		for _, w := range b.Writes() {
			d.take(t, w)
		}
		if got := told(mustMount(t, d.left(-1))); got != told(b) {
			t.Fatalf("P2, P12: %q, want %q", got, told(b))
		}
	}
}

// TestBooksWriteApart: three books in turn, one of them mounted from another's disk, write as each would alone.
func TestBooksWriteApart(t *testing.T) {
	image := laidAll(t, noughts, bookOf(t, 0, 0).Writes())
	start := []func() *daybook.Book{daybook.New, daybook.New, func() *daybook.Book { return mustMount(t, image) }}
	books := make([]*daybook.Book, len(start))
	logs := make([][]api.Write, len(start))
	for i := range books {
		books[i] = start[i]()
	}
	for k := range script {
		for i, b := range books {
			script[(k+5*i)%len(script)].do(b)
			logs[i] = append(logs[i], b.Writes()...)
		}
	}
	for i := range books {
		alone := start[i]()
		for k := range script {
			script[(k+5*i)%len(script)].do(alone)
		}
		if told(books[i]) != told(alone) || !sameWrites(logs[i], alone.Writes()) {
			t.Errorf("P2: book %d: among others %q, alone %q", i, told(books[i]), told(alone))
		}
	}
}
