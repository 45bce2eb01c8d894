package daybook_test

import (
	"math/rand"
	"regexp"
	"strings"
	"testing"

	"daybook/api"
	"daybook/daybook"
)

func repeat(s string, n int) string { return strings.Repeat(s, n) }

// times: n times the same with a sign between each two.
func times(s string, sign string, n int) string {
	return strings.TrimSuffix(repeat(s+sign, n), sign)
}

func TestCheck(t *testing.T) {
	for _, c := range []struct {
		text  string
		errno api.Errno
		place int
	}{
		// ordinary ones, and those of the document
		{"0-30|1", api.OK, 0}, {"0 - 30 | - 1", api.OK, 0}, {"0-30|@1/@2+1", api.OK, 0}, {" 0 - 1 , 2 - 3 | 1 ; ( 2 ) ", api.OK, 0},
		{"", api.ErrForm, 0}, {"0-30", api.ErrForm, 4}, {"0-30|", api.ErrForm, 5}, {"0-30|1+", api.ErrForm, 7}, {"0-30|(1", api.ErrForm, 7}, {"0-30|1)", api.ErrForm, 6}, {"0-1000|1", api.ErrForm, 5}, {"0-30|@ 1", api.ErrForm, 6},
		{"31-30|1", api.ErrPeriod, 0}, {"0-30|1;$1", api.ErrRow, 1}, {"0-30|@1*@1", api.ErrType, 0}, {"0-30|1;@1+$0", api.ErrType, 1},
		// MaxText
		{"0-9|" + repeat(" ", 195) + "1", api.OK, 0}, {"0-9|" + repeat(" ", 196) + "1", api.ErrLong, 0}, {"0-9|" + repeat("-", 195) + "1", api.OK, 0}, {"0-9|" + repeat("(", 97) + "10" + repeat(")", 97), api.OK, 0}, {"0-9|" + times("1", "+", 98) + " ", api.OK, 0},
		{"0-9|" + repeat("(", 196), api.ErrForm, 200}, {"0-9|" + repeat("-", 196), api.ErrForm, 200}, {repeat(" ", 200), api.ErrForm, 200}, {repeat("x", 200), api.ErrForm, 0}, {repeat("x", 201), api.ErrLong, 0}, {repeat("\x00", 1000000), api.ErrLong, 0},
		// digits of days, numbers, accounts and rows
		{"000-999|1", api.OK, 0}, {"0000-1|1", api.ErrForm, 3}, {"1-0000|1", api.ErrForm, 5}, {"0-9|" + repeat("9", api.MaxDigits), api.OK, 0}, {"0-9|" + repeat("9", api.MaxDigits+1), api.ErrForm, 22}, {"0-9|" + repeat("0", api.MaxDigits+1), api.ErrForm, 22},
		{"0-9|@99", api.OK, 0}, {"0-9|!00", api.OK, 0}, {"0-9|#0", api.OK, 0}, {"0-9|@100", api.ErrForm, 7}, {"0-9|!100", api.ErrForm, 7}, {"0-9|#000", api.ErrForm, 7}, {"0-9|1;$0", api.OK, 0}, {"0-9|1;<0", api.OK, 0}, {"0-9|1;$00", api.ErrForm, 8}, {"0-9|1;<00", api.ErrForm, 8},
		{"0-9|@", api.ErrForm, 5}, {"0-9|$", api.ErrForm, 5}, {"0-9|@-1", api.ErrForm, 5}, {"0-9|@@1", api.ErrForm, 5}, {"0-9|$ 1", api.ErrForm, 5}, {"0 1-9|1", api.ErrForm, 2}, {"0-9|1 1", api.ErrForm, 6}, {"0-9|@1 1", api.ErrForm, 7},
		// bytes that stand nowhere
		{"0-9|1\x00", api.ErrForm, 5}, {"\x00", api.ErrForm, 0}, {"0-9|\t1", api.ErrForm, 4}, {"0-9|1\n", api.ErrForm, 5}, {"0-9|\u00a01", api.ErrForm, 4}, {"0-9|\u0661", api.ErrForm, 4}, {"0-9|\xff", api.ErrForm, 4}, {"0-9|1:", api.ErrForm, 5}, {"0-9|/1", api.ErrForm, 4}, {"0-9|~1", api.ErrForm, 4},
		// MaxPeriods and MaxRows
		{times("0-9", ",", api.MaxPeriods) + "|" + times("1", ";", api.MaxRows), api.OK, 0}, {times("0-9", ",", api.MaxPeriods+1) + "|1", api.ErrSize, 0}, {"0-9|" + times("1", ";", api.MaxRows+1), api.ErrSize, 0}, {"0-9|" + times("1", ";", 98), api.ErrSize, 0}, {times("0-9", ",", 49) + "|1", api.ErrSize, 0},
		// the error that is named first
		{times("0-9", ",", 5) + "|1+", api.ErrForm, 22}, {"9-0,0-9,0-9,0-9,0-9|$0;@1*@1", api.ErrSize, 0}, {"9-0|" + times("$9", ";", 9), api.ErrSize, 0}, {"0-9,9-0,8-0|$0;@1*@1", api.ErrPeriod, 1}, {"0-9|@1*@1;2/@1;$2;$3", api.ErrRow, 2}, {"0-9|@1;@1*@1;2/@1", api.ErrType, 1}, {"9-0|" + repeat(" ", 200), api.ErrLong, 0},
		// periods and names of rows
		{"5-5|1", api.OK, 0}, {"5-4|1", api.ErrPeriod, 0}, {"999-998|1", api.ErrPeriod, 0}, {"0-9,0-9,0-9,010-009|1", api.ErrPeriod, 3}, {"10-100|1", api.OK, 0}, {"9-8,7-6|1", api.ErrPeriod, 0},
		{"0-9|$0", api.ErrRow, 0}, {"0-9|<0", api.ErrRow, 0}, {"0-9|$1;1", api.ErrRow, 0}, {"0-9|1;2;$0+<1;$3", api.ErrRow, 3}, {"0-9|1;1+(2*-$9)", api.ErrRow, 1}, {"0-9|1;2;3;4;5;6;7;$6-<6", api.OK, 0}, {"0-9|1;2;3;4;5;6;7;$7", api.ErrRow, 7},
		// kinds
		{"0-9|-@1+-!1", api.OK, 0}, {"0-9|#1*@1*2/3", api.OK, 0}, {"0-9|@1/!1*#1-7", api.OK, 0}, {"0-9|@1+#1", api.ErrType, 0}, {"0-9|#1+@1", api.ErrType, 0}, {"0-9|!1-0", api.ErrType, 0}, {"0-9|!1*-@1", api.ErrType, 0}, {"0-9|#1/!1", api.ErrType, 0}, {"0-9|1/@1*2", api.ErrType, 0}, {"0-9|@1/@1/@1", api.ErrType, 0}, {"0-9|@1/(@1/@1)", api.OK, 0}, {"0-9|@1*2*@1", api.ErrType, 0},
		{"0-9|@1;-$0;<1+!2;$2/$0;$3+1", api.OK, 0}, {"0-9|@1;-$0;<1+!2;$2/$0;$3+@1", api.ErrType, 4}, {"0-9|1;@1;$0*$1;$2+$0", api.ErrType, 3}, {"0-9|1;@1;<0*<1;$2+<1", api.OK, 0},
	} {
		if errno, place := daybook.Check(c.text); errno != c.errno || place != c.place {
			t.Errorf("P3: Check(%.90q) = %d, %d, want %d, %d", c.text, errno, place, c.errno, c.place)
		}
	}
}

var (
	operandForm  = regexp.MustCompile(`[0-9]{1,18}|[@!#][0-9]{1,2}|[$<][0-9]`)
	dayForm      = regexp.MustCompile(`[0-9]{1,3}`)
	periodsForm  = regexp.MustCompile(`^d-d(,d-d)*$`)
	joinedForm   = regexp.MustCompile(`v[-+*/]-*v`)
	bracketForm  = regexp.MustCompile(`\(-*v\)`)
	finishedForm = regexp.MustCompile(`^-*v$`)
	strayForm    = regexp.MustCompile(`[vd]`)
)

// isReport tells by another way than the program whether a text is a report by its form: operands are brought down to
// one letter, blanks are dropped, and what stands in a row is brought down step by step.
func isReport(text string) bool {
	head, tail, found := strings.Cut(text, "|")
	if !found || strayForm.MatchString(text) {
		return false
	}
	days := strings.ReplaceAll(dayForm.ReplaceAllString(head, "d"), " ", "")
	if !periodsForm.MatchString(days) {
		return false
	}
	for _, row := range strings.Split(tail, ";") {
		row = strings.ReplaceAll(operandForm.ReplaceAllString(row, "v"), " ", "")
		for last := ""; last != row; {
			last = row
			row = bracketForm.ReplaceAllString(joinedForm.ReplaceAllString(row, "v"), "v")
		}
		if !finishedForm.MatchString(row) {
			return false
		}
	}
	return true
}

// goesOn tells whether some report begins with a text: one of these endings makes it one then.
func goesOn(text string) bool {
	for open := 0; open <= strings.Count(text, "("); open++ {
		for _, ending := range []string{"", "0", "|0", "0|0", "-0|0", "0-0|0"} {
			if isReport(text + ending + repeat(")", open)) {
				return true
			}
		}
	}
	return false
}

// faultOf: the place of the fault in a text that is no report.
func faultOf(text string) int {
	for i := range []byte(text) {
		if !goesOn(text[:i+1]) {
			return i
		}
	}
	return len(text)
}

// expectForm compares Check with isReport and the place that is known.
func expectForm(t *testing.T, text string, report bool, fault int) {
	errno, place := daybook.Check(text)
	if report && errno == api.ErrForm || !report && (errno != api.ErrForm || place != fault) {
		t.Errorf("P3: Check(%q) = %d, %d, want a report: %v, fault at %d", text, errno, place, report, fault)
	}
}

// walk goes through all that can stand behind the beginning of a report, so many bytes far.
func walk(t *testing.T, text string, far int) {
	expectForm(t, text, isReport(text), len(text))
	if far == 0 || t.Failed() {
		return
	}
	for _, next := range []byte(" 0-,|;+*/()@#$<x\x00\xb1") {
		longer := text + string([]byte{next})
		if goesOn(longer) {
			walk(t, longer, far-1)
			continue
		}
		for _, junk := range []string{"", "0", ")", "|1", "\xff"} {
			expectForm(t, longer+junk, false, len(text))
		}
	}
}

func TestCheckFormEverywhere(t *testing.T) {
	for _, begin := range []string{"", "0-9", "9-0,", "0-9|", "0-9|1", "0-9|((1", "0-9|1;", "0-9|@1-", "0-9|1)"[:5], "00", "0-00", "0-9|@0", "0-9|" + repeat("0", 17)} {
		walk(t, begin, 3)
	}
}

func TestCheckFormOfSpoiltReports(t *testing.T) {
	r := rand.New(rand.NewSource(3))
	for range 4000 {
		text := "0-9,10-19|" + grow(r, 1+r.Intn(4), 0, true).loose(r) + ";" + grow(r, 1+r.Intn(4), 1, true).loose(r)
		at := r.Intn(len(text) + 1)
		switch r.Intn(3) {
		case 0:
			text = text[:at]
		case 1:
			text = text[:at] + string(" 01-,|;+*/()@!#$<"[r.Intn(17)]) + text[at:]
		default:
			text = text[:at] + text[min(at+1, len(text)):]
		}
		report := isReport(text)
		expectForm(t, text, report, faultOf(text))
	}
}

func TestCheckKindsOfTrees(t *testing.T) {
	r := rand.New(rand.NewSource(4))
	seen := map[api.Errno]int{}
	for range 20000 {
		var kinds []bool
		var rows []string
		want, wantPlace := api.OK, 0
		for row := range 3 {
			tree := grow(r, 1+r.Intn(4), row, true)
			money, ok := tree.isMoney(append(kinds, false, false))
			if !ok && want == api.OK {
				want, wantPlace = api.ErrType, row
			}
			kinds = append(kinds, money)
			rows = append(rows, tree.plain())
		}
		text := "0-9|" + strings.Join(rows, ";")
		if len(text) > api.MaxText {
			continue
		}
		seen[want]++
		if errno, place := daybook.Check(text); errno != want || place != wantPlace {
			t.Fatalf("P3: Check(%q) = %d, %d, want %d, %d", text, errno, place, want, wantPlace)
		}
	}
	if seen[api.OK] < 1000 || seen[api.ErrType] < 1000 {
		t.Errorf("too few of a sort: %v", seen)
	}
}
