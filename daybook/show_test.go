package daybook_test

import (
	"math/rand"
	"strings"
	"testing"

	"daybook/api"
	"daybook/daybook"
)

func TestShow(t *testing.T) {
	for _, c := range []struct {
		text, want string
	}{
		// those of the document
		{"00-030 | ((1)) + (2 * 3)", "0-30|1+2*3"}, {"0-9|1-(2-3)", "0-9|1-(2-3)"}, {"0-9|1*(2/3)", "0-9|1*(2/3)"}, {"0-9|-(1*2)", "0-9|-(1*2)"}, {"0-9|--1", "0-9|--1"}, {"0-9|(1+2)*3", "0-9|(1+2)*3"}, {"0-9|(1-2)-3", "0-9|1-2-3"}, {"0-9|(-1)*2", "0-9|-1*2"}, {"0-9|1*(-2)", "0-9|1*-2"},
		// digits 0 ahead of others
		{"000-000,001-010,0-099|00;0;010;" + repeat("0", 18) + ";0" + repeat("9", 17), "0-0,1-10,0-99|0;0;10;0;" + repeat("9", 17)}, {"0-9|@00+@01+@10+!09;#00;$0;<1", "0-9|@0+@1+@10+!9;#0;$0;<1"}, {"0-9|" + repeat("9", 18), "0-9|" + repeat("9", 18)},
		// blanks
		{"  0 - 9  ,  1 - 2  |  1  +  ( 2 - 3 )  *  - 4  ;  5  ", "0-9,1-2|1+(2-3)*-4;5"},
		// brackets around sums
		{"0-9|(1+2)/3", "0-9|(1+2)/3"}, {"0-9|3/(1-2)", "0-9|3/(1-2)"}, {"0-9|-(1-2)", "0-9|-(1-2)"}, {"0-9|1+(2+3)", "0-9|1+(2+3)"}, {"0-9|(1+2)+3", "0-9|1+2+3"}, {"0-9|1+((2-3)-4)", "0-9|1+(2-3-4)"}, {"0-9|(1+(2+(3+4)))", "0-9|1+(2+(3+4))"}, {"0-9|-((1+2)+3)", "0-9|-(1+2+3)"},
		// brackets around terms
		{"0-9|1-(2/3)", "0-9|1-2/3"}, {"0-9|(1/2)-3", "0-9|1/2-3"}, {"0-9|1/(2*3)", "0-9|1/(2*3)"}, {"0-9|(1/2)/3", "0-9|1/2/3"}, {"0-9|-(1/2)", "0-9|-(1/2)"}, {"0-9|1*((2*3)*4)", "0-9|1*(2*3*4)"}, {"0-9|(1*2+3)*4", "0-9|(1*2+3)*4"},
		// a - ahead of a factor
		{"0-9|-(-(-(1)))", "0-9|---1"}, {"0-9|1-(-(2+3))", "0-9|1--(2+3)"}, {"0-9|(-1)-(-2)", "0-9|-1--2"}, {"0-9|(-(1*2))*3", "0-9|-(1*2)*3"}, {"0-9|-((-1)*2)", "0-9|-(-1*2)"}, {"0-9|(-@1)/(-#1)", "0-9|-@1/-#1"}, {"0-9|(--1)+(2)", "0-9|--1+2"},
		// the limits
		{"0-9|" + repeat("(", 97) + "10" + repeat(")", 97), "0-9|10"}, {"0-9|" + repeat("-", 195) + "1", "0-9|" + repeat("-", 195) + "1"}, {times("00-09", ",", 4) + "|" + times("(1)", ";", 8), times("0-9", ",", 4) + "|" + times("1", ";", 8)},
	} {
		if text, errno := daybook.Show(c.text); text != c.want || errno != api.OK {
			t.Errorf("P4: Show(%.90q) = %q, %d, want %q", c.text, text, errno, c.want)
		}
	}
}

func TestShowOfTrees(t *testing.T) {
	r := rand.New(rand.NewSource(1))
	seen := 0
	for range 20000 {
		first := grow(r, 1+r.Intn(6), 0, false)
		second := grow(r, 1+r.Intn(6), 1, false)
		want := "0-30,31-60|" + first.plain() + ";" + second.plain()
		for _, text := range []string{
			want,
			"0-30,31-60|" + first.full() + ";" + second.full(),
			"00-30, 031 - 60|" + first.loose(r) + ";" + second.loose(r),
		} {
			if len(text) > api.MaxText {
				continue
			}
			seen++
			if got, errno := daybook.Show(text); got != want || errno != api.OK {
				t.Fatalf("P4: Show(%q) = %q, %d, want %q", text, got, errno, want)
			}
		}
	}
	if seen < 20000 {
		t.Errorf("only %d trees were short enough", seen)
	}
}

// wrongTexts: a text for each error of Check.
var wrongTexts = []struct {
	text  string
	errno api.Errno
}{
	{repeat(" ", 201), api.ErrLong}, {"0-9|1" + repeat(" ", 196), api.ErrLong}, {"", api.ErrForm}, {"0-9|1+", api.ErrForm}, {"0-9|" + repeat("1", 19), api.ErrForm}, {times("0-9", ",", 5) + "|1", api.ErrSize}, {"0-9|" + times("1", ";", 9), api.ErrSize},
	{"9-8|1", api.ErrPeriod}, {"0-9|$0", api.ErrRow}, {"0-9|1;<1", api.ErrRow}, {"0-9|@1*@1", api.ErrType}, {"0-9|1;2/!1", api.ErrType},
}

func TestShowOfWrongTexts(t *testing.T) {
	for _, c := range wrongTexts {
		if text, errno := daybook.Show(c.text); text != "" || errno != c.errno {
			t.Errorf("P4: Show(%.60q) = %q, %d, want %d", c.text, text, errno, c.errno)
		}
	}
}

func TestShowStaysAsItIs(t *testing.T) {
	for _, text := range []string{"0-9|" + times("1", "-", 98), "0-9|1" + strings.Repeat("*-(1", 39) + strings.Repeat(")", 39)} {
		if len(text) > api.MaxText {
			t.Fatalf("%q is too long", text)
		}
		if got, errno := daybook.Show(text); got != strings.ReplaceAll(text, "(1)", "1") || errno != api.OK {
			t.Errorf("P4: Show(%q) = %q, %d", text, got, errno)
		}
	}
}
