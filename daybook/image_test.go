package daybook_test

import (
	"math/rand"
	"strconv"
	"strings"
	"testing"

	"daybook/api"
	"daybook/daybook"
)

// scriptImage: the disk of a book behind all calls of the script.
func scriptImage(t *testing.T) string {
	t.Helper()
	return laidAll(t, noughts, joinLogs(runScript(daybook.New(), func(int) bool { return false })))
}

func fullImage(t *testing.T) string {
	t.Helper()
	b := daybook.New()
	for _, do := range fullBook() {
		do(b)
	}
	return laidAll(t, noughts, b.Writes())
}

func TestImagesOfAnyOtherLength(t *testing.T) {
	for _, image := range []string{noughts, scriptImage(t), fullImage(t), repeat("\xff", diskSize)} {
		long := image + image + noughts
		for n := range len(long) + 1 {
			if n == diskSize {
				continue
			}
			if b, e := daybook.Mount(long[:n]); b != nil || e != api.ErrImage {
				t.Fatalf("P12: Mount of %d bytes: %v, %d", n, b != nil, e)
			}
		}
		for n := 1; n <= diskSize; n++ { // what is missing, or too much, stands ahead
			if b, e := daybook.Mount(image[n:]); b != nil || e != api.ErrImage {
				t.Fatalf("P12: Mount of %d bytes: %v, %d", diskSize-n, b != nil, e)
			}
		}
		for _, other := range []string{"\x00" + image, image + "\x00", repeat(image, 3), repeat(image, 100)} {
			if b, e := daybook.Mount(other); b != nil || e != api.ErrImage {
				t.Fatalf("P12: Mount of %d bytes: %v, %d", len(other), b != nil, e)
			}
		}
	}
}

func TestADiskOfNoughtsIsAnEmptyBook(t *testing.T) {
	b := mustMount(t, noughts)
	mustTell(t, b, "", "")
	d := &drive{safe: noughts}
	d.keep(t, b.Writes(), "|", "|")
	mustClose(t, b, 0, api.ErrAccount)
	mustNotOpen(t, b, 1, api.ErrAccount)
	mustPost(t, b, 0, 0, lines(0, 1, 0, -1), api.ErrAccount)
	mustReport(t, b, "0-999|@0;#0", "0;0")
	if l := b.Writes(); len(l) != 0 {
		t.Errorf("P1: what is refused writes %#v", l)
	}
	for i, s := range script {
		before := told(b)
		if e := s.do(b); e != s.want {
			t.Fatalf("call %d: %d, want %d", i, e, s.want)
		}
		d.keep(t, b.Writes(), before, told(b))
	}
	fresh := daybook.New()
	runScript(fresh, func(int) bool { return false })
	if told(b) != told(fresh) {
		t.Errorf("P12: %q, want %q", told(b), told(fresh))
	}
}

// TestMountHangsOnTheImageAlone: books of one image know nothing of one another, and what they do changes nothing of
// what a later Mount answers.
func TestMountHangsOnTheImageAlone(t *testing.T) {
	image := laidAll(t, noughts, exampleBook(t).Writes())
	want := told(exampleBook(t))
	a, b := mustMount(t, image), mustMount(t, string([]byte(image)))
	mustOpen(t, a, 3, 4)
	mustPost(t, a, 9, 9, lines(4, 1, 1, -1), api.OK)
	if told(b) != want || told(mustMount(t, image)) != want {
		t.Errorf("P2: %q and %q, want %q", told(b), told(mustMount(t, image)), want)
	}
	mustOpen(t, b, 1, 4)
	mustClose(t, b, 4, api.OK)
	left, right := laidAll(t, image, a.Writes()), laidAll(t, image, b.Writes())
	if got := told(mustMount(t, left)); got != told(a) {
		t.Errorf("P2, P12: %q, want %q", got, told(a))
	}
	if got := told(mustMount(t, right)); got != told(b) {
		t.Errorf("P2, P12: %q, want %q", got, told(b))
	}
	daybook.Mount(repeat("\xff", diskSize))
	daybook.Mount("")
	if got := told(mustMount(t, image)); got != want {
		t.Errorf("P2: %q, want %q", got, want)
	}
}

// mustBeABook asks that calls of a new book lead to what this one tells.
func mustBeABook(t *testing.T, b *daybook.Book) {
	t.Helper()
	c := daybook.New()
	var parents []string
	if b.Accounts() != "" {
		parents = strings.Split(b.Accounts(), ",")
	}
	for _, text := range parents {
		parent, _ := strconv.Atoi(strings.TrimSuffix(text, "x"))
		c.Open(parent)
	}
	if b.Journal() != "" {
		for _, text := range strings.Split(b.Journal(), ";") {
			var numbers []int
			for _, digits := range strings.FieldsFunc(text, func(sign rune) bool { return sign == ':' || sign == ',' }) {
				n, _ := strconv.Atoi(digits)
				numbers = append(numbers, n)
			}
			c.Post(numbers[0], numbers[1], lines(numbers[2:]...))
		}
	}
	for n := len(parents); n > 0; n-- { // what lies below an account stands behind it
		if strings.HasSuffix(parents[n-1], "x") {
			c.Close(n)
		}
	}
	if told(c) != told(b) {
		t.Fatalf("P12: no calls lead to the book %q", told(b))
	}
}

// mustAnswer mounts what no crash may have left: it is refused, or it is a book like any other, whose own crashes lose
// nothing.
func mustAnswer(t *testing.T, image string) api.Errno {
	t.Helper()
	b, e := daybook.Mount(image)
	again, f := daybook.Mount(string([]byte(image)))
	if f != e || (again != nil) != (b != nil) {
		t.Fatalf("P2: Mount of one image: %d, and then %d", e, f)
	}
	if e != api.OK {
		if b != nil || e != api.ErrImage {
			t.Fatalf("P12: Mount: %v, %d", b != nil, e)
		}
		return e
	}
	if b == nil || told(again) != told(b) {
		t.Fatalf("P2, P12: Mount: %v, OK, or another book", b != nil)
	}
	mustBeABook(t, b)
	d := &drive{safe: image}
	d.keep(t, b.Writes(), told(b), told(b))
	for _, do := range []call{opening(0), posting(4321, 1, 1, 5, 1, -5), closing(1)} {
		before := told(b)
		do(b)
		d.keep(t, b.Writes(), before, told(b))
	}
	return api.OK
}

// withSector: an image with other bytes in a sector.
func withSector(image string, sector int, data string) string {
	return image[:64*sector] + data + image[64*sector+64:]
}

func sectorOf(image string, sector int) string { return image[64*sector : 64*sector+64] }

func TestImagesWithAByteChanged(t *testing.T) {
	seen := map[api.Errno]int{}
	for _, start := range []struct {
		image string
		step  int
	}{{scriptImage(t), 1}, {fullImage(t), 11}} {
		for place := 0; place < diskSize; place += start.step {
			for _, flip := range []byte{0x01, 0x02, 0xff} {
				bytes := []byte(start.image)
				bytes[place] ^= flip
				seen[mustAnswer(t, string(bytes))]++
			}
		}
	}
	if seen[api.ErrImage] < 1000 || seen[api.OK] < 10 {
		t.Errorf("too few of a sort: %v", seen)
	}
}

// TestImagesWithSectorsChanged: sectors lost, doubled, exchanged, and taken from another book's disk.
func TestImagesWithSectorsChanged(t *testing.T) {
	r := rand.New(rand.NewSource(14))
	image, full := scriptImage(t), fullImage(t)
	blank := repeat("\x00", 64)
	for _, start := range []string{image, full} {
		for i := range 128 {
			mustAnswer(t, withSector(start, i, blank))
			mustAnswer(t, start[:64*i]+start[64*i+64:]+blank)
			mustAnswer(t, start[:64*i]+blank+start[64*i:diskSize-64])
			mustAnswer(t, start[:64*i]+repeat("\x00", diskSize-64*i))
			mustAnswer(t, withSector(start, i, repeat("\xff", 64)))
			for _, j := range []int{(i + 1) % 128, r.Intn(128), r.Intn(40), r.Intn(i + 1)} {
				mustAnswer(t, withSector(start, i, sectorOf(start, j)))
				mustAnswer(t, withSector(start, i, sectorOf(full, j)))
				mustAnswer(t, withSector(withSector(start, i, sectorOf(start, j)), j, sectorOf(start, i)))
			}
		}
	}
}

func TestImagesOfNoise(t *testing.T) {
	for n := range 256 {
		mustAnswer(t, repeat(string([]byte{byte(n)}), diskSize))
		mustAnswer(t, repeat(string([]byte{byte(n), 0}), diskSize/2))
		mustAnswer(t, repeat(string([]byte{byte(n)})+repeat("\x00", 63), 128))
	}
	r := rand.New(rand.NewSource(13))
	images := []string{noughts, scriptImage(t), fullImage(t)}
	for range 3000 {
		bytes := []byte(images[r.Intn(len(images))])
		for range 1 + r.Intn(1<<r.Intn(14)) {
			bytes[r.Intn(1+r.Intn(diskSize))] = byte(r.Intn(1 + r.Intn(256)))
		}
		mustAnswer(t, string(bytes))
	}
}
