package daybook_test

import (
	"math/rand"
	"testing"

	"daybook/api"
	"daybook/daybook"
)

// answers: all that Check, Show and Compile say of a text.
type answers struct {
	check, show, compile api.Errno
	place                int
	shown, code          string
}

func ask(text string) answers {
	var a answers
	a.check, a.place = daybook.Check(text)
	a.shown, a.show = daybook.Show(text)
	a.code, a.compile = daybook.Compile(text)
	return a
}

// someTexts: reports, reports with bytes changed, and bytes at random, up to beyond MaxText.
func someTexts() []string {
	r := rand.New(rand.NewSource(5))
	var list []string
	for range 3000 {
		text := []byte("0-9,10-19|" + grow(r, 1+r.Intn(9), 0, true).loose(r) + ";" + grow(r, 1+r.Intn(9), 1, true).loose(r))
		list = append(list, string(text))
		text[r.Intn(len(text))] = byte(r.Intn(256))
		list = append(list, string(text))
		signs := []byte(" 0123456789-,|;+*/()@!#$<")
		noise := make([]byte, r.Intn(210))
		for i := range noise {
			noise[i] = signs[r.Intn(len(signs))]
		}
		list = append(list, string(noise), "0-9|"+string(noise))
	}
	for n := range 256 {
		list = append(list, string([]byte{byte(n)}), "0-9|1"+string([]byte{byte(n)}))
	}
	for _, piece := range []string{"(", "-", "1", "@", "1+", "0-9,", "0-9|1;", "\x00", "\xff"} {
		for _, n := range []int{1, 50, 196, 199, 200, 201, 100000} {
			list = append(list, repeat(piece, n), "0-9|"+repeat(piece, n))
		}
	}
	return list
}

func TestErrorsComeAlone(t *testing.T) {
	for _, text := range someTexts() {
		a := ask(text)
		if a.show != a.check || a.compile != a.check {
			t.Errorf("P4, P5: %.60q: Check says %d, Show %d, Compile %d", text, a.check, a.show, a.compile)
		}
		if right := a.check == api.OK; (a.shown != "") != right || (a.code != "") != right {
			t.Errorf("P1: %.60q: %d, but %q and %q", text, a.check, a.shown, a.code)
		}
		most := 0
		switch a.check {
		case api.ErrForm:
			most = len(text)
		case api.ErrPeriod:
			most = api.MaxPeriods - 1
		case api.ErrRow, api.ErrType:
			most = api.MaxRows - 1
		}
		if a.place < 0 || a.place > most {
			t.Errorf("P1, P3: %.60q: %d and the place %d", text, a.check, a.place)
		}
		if a.check == api.OK {
			if b := ask(a.shown); b.check != api.OK || b.shown != a.shown || b.code != a.code {
				t.Errorf("P4: the plain form of %.60q is %q, and of that it is %q, %d, with the code %q for %q", text, a.shown, b.shown, b.check, b.code, a.code)
			}
		}
	}
}

func TestAnswersHangOnTheTextAlone(t *testing.T) {
	texts := someTexts()
	var first []answers
	for _, text := range texts {
		first = append(first, ask(text))
	}
	for i := len(texts) - 1; i >= 0; i-- {
		copied := string([]byte(texts[i]))
		if again := ask(copied); again != first[i] {
			t.Errorf("P2: %.60q: %v, and later %v", texts[i], first[i], again)
		}
	}
}
