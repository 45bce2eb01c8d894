package daybook_test

import (
	"regexp"
	"strconv"
	"strings"
	"testing"

	"daybook/api"
	"daybook/daybook"
)

// mustReport asks, too, that nothing has changed.
func mustReport(t *testing.T, b *daybook.Book, text string, want string) {
	t.Helper()
	accounts, journal := b.Accounts(), b.Journal()
	if got, e := b.Report(text); got != want || e != api.OK {
		t.Errorf("P10: Report(%.200q) = %q, %d, want %q", text, got, e, want)
	}
	mustTell(t, b, accounts, journal)
}

// mustNotReport asks, too, that nothing has changed.
func mustNotReport(t *testing.T, b *daybook.Book, text string, want api.Errno) {
	t.Helper()
	accounts, journal := b.Accounts(), b.Journal()
	if got, e := b.Report(text); got != "" || e != want {
		t.Errorf("P10: Report(%.200q) = %q, %d, want %d", text, got, e, want)
	}
	mustTell(t, b, accounts, journal)
}

// mustCome asks for the cells of rows in one period, in a book that has nothing in it.
func mustCome(t *testing.T, want string, rows ...string) {
	t.Helper()
	mustReport(t, daybook.New(), "0-9|"+strings.Join(rows, ";"), want)
}

func exampleBook(t *testing.T) *daybook.Book {
	t.Helper()
	b := bookOf(t, 0, 1, 0)
	mustPost(t, b, 7, 10, lines(1, 500, 3, -500), api.OK)
	mustPost(t, b, 8, 40, lines(2, 70, 3, -70), api.OK)
	return b
}

func TestTheReportsOfTheExamples(t *testing.T) {
	b := exampleBook(t)
	mustReport(t, b, "0-30,31-60|@1;#1;$0-<0;@1/@2;!1", "500,70;1,1;500,-430;z,1;500,0")
	mustReport(t, b, "0-99|999999999999999999*10;-$0", "o;o")
	mustReport(t, b, "0-99|-7/2;7/-2", "-3;-3")
}

func TestReportRefusesWhatCheckRefuses(t *testing.T) {
	for _, b := range []*daybook.Book{daybook.New(), exampleBook(t)} {
		for _, c := range wrongTexts {
			mustNotReport(t, b, c.text, c.errno)
		}
		// each error of Check is named ahead of ErrAccount
		for _, c := range []struct {
			text  string
			errno api.Errno
		}{
			{"0-9|@9" + repeat(" ", 195), api.ErrLong}, {"0-9|@9;", api.ErrForm}, {"0-9|@100", api.ErrForm}, {"0-9|@9)", api.ErrForm}, {"0-9|@-1", api.ErrForm}, {times("0-9", ",", 5) + "|@9", api.ErrSize}, {"0-9|" + times("#9", ";", 9), api.ErrSize},
			{"9-0|@9", api.ErrPeriod}, {"0-9,9-0|!9", api.ErrPeriod}, {"0-9|@9;$1", api.ErrRow}, {"0-9|#9;<7", api.ErrRow}, {"0-9|@9*@9", api.ErrType}, {"0-9|#9/!9", api.ErrType}, {"0-9|@9;1;$0+$1", api.ErrType},
		} {
			mustNotReport(t, b, c.text, c.errno)
		}
	}
}

func TestReportRefusesAccountsThatAreNotThere(t *testing.T) {
	b := daybook.New()
	for count := 1; count <= api.MaxAccounts; count++ {
		for n := range 100 {
			for _, sign := range []string{"@", "!", "#"} {
				name := sign + number(n)
				if n < count {
					mustReport(t, b, "0-9|"+name, "0")
				} else {
					mustNotReport(t, b, "0-9|"+name, api.ErrAccount)
				}
			}
		}
		b.Open(count - 1)
	}
	// wherever it stands, and whatever comes of the rest
	b = exampleBook(t)
	for _, row := range []string{"1;2;#4", "@4;1", "-!4", "1/0*#4", "0*#4", "@1+@2+@3+@4", "@4-@4", "(@1/(2-(#3*--#4)))", "999999999999999999*10;#4", "@04", "#99", "@16", "!10", "1;2;3;4;5;6;7;@1/@15"} {
		mustNotReport(t, b, "0-9|"+row, api.ErrAccount)
		mustNotReport(t, b, " 0 - 9 , 5-5|"+row+" ", api.ErrAccount)
	}
	// numbers and rows are no accounts
	mustReport(t, b, "0-9|4;$0;99;<1", "4;4;99;0")
	// with the account it is right; in another book it is not
	mustNotReport(t, b, "0-99|@4", api.ErrAccount)
	mustOpen(t, b, 1, 4)
	mustReport(t, b, "0-99|@4;#4", "0;0")
	mustNotReport(t, exampleBook(t), "0-99|@4", api.ErrAccount)
}

func TestReportOfAccountsAloneAndWithThoseBelow(t *testing.T) {
	// 1 has 2 and 3 below it, 3 has 5, 5 has 6; 4 has 7; 8 is alone
	b := bookOf(t, 0, 1, 1, 0, 3, 5, 4, 0)
	mustPost(t, b, 1, 5, lines(1, 1, 2, 20, 3, 300, 8, -321), api.OK)
	mustPost(t, b, 2, 5, lines(5, 4000, 6, 50000, 4, 600000, 8, -654000), api.OK)
	mustPost(t, b, 3, 5, lines(7, 7000000, 8, -7000000), api.OK)
	mustReport(t, b, "5-5|@0;@1;@2;@3;@4;@5;@6;@7", "0;54321;20;54300;7600000;54000;50000;7000000")
	mustReport(t, b, "5-5|@8;!8;#8", "-7654321;-7654321;3")
	mustReport(t, b, "5-5|!0;!1;!2;!3;!4;!5;!6;!7", "0;1;20;300;600000;4000;50000;7000000")
	mustReport(t, b, "5-5|#0;#1;#2;#3;#4;#5;#6;#7", "10;5;1;3;2;2;1;1")
	// 16 accounts, each below the one ahead of it, and a line of the last
	b = bookOf(t, 0, 1, 2, 3, 4, 5, 6, 7, 8, 9, 10, 11, 12, 13, 14)
	mustPost(t, b, 1, 5, lines(15, 9, 1, -4, 14, -5), api.OK)
	mustReport(t, b, "5-5|@0;@1;@2;@14;@15;!1;!14;!15", "0;0;4;4;9;-4;-5;9")
	mustReport(t, b, "5-5|#0;#1;#2;#13;#14;#15;@13;!13", "3;3;2;2;2;1;4;0")
}

func TestReportCountsLinesNotTransactions(t *testing.T) {
	b := bookOf(t, 0, 1, 0)
	// an account may stand in several lines, and lines that sum to nothing are still lines
	mustPost(t, b, 1, 5, lines(1, 7, 1, -7, 2, 7, 2, -7), api.OK)
	mustPost(t, b, 2, 5, lines(1, 7, 3, 3, 1, -10), api.OK)
	mustReport(t, b, "5-5|@1;!1;#1;@2;!2;#2;@3;#3", "-3;-3;6;0;0;2;3;1")
	mustReport(t, b, "5-5|@0;!0;#0", "0;0;7")
	// what is posted once more does not count
	mustPost(t, b, 2, 5, lines(1, 7, 3, 3, 1, -10), api.OK)
	mustPost(t, b, 2, 5, lines(1, 7, 3, 3, 2, -10), api.ErrTwice)
	mustReport(t, b, "5-5|@1;!1;#1;@2;!2;#2;@3;#3", "-3;-3;6;0;0;2;3;1")
}

func TestReportOfClosedAccounts(t *testing.T) {
	b := bookOf(t, 0, 1, 2, 0)
	mustPost(t, b, 1, 10, lines(3, 70, 4, -70), api.OK)
	mustPost(t, b, 2, 20, lines(3, -70, 4, 70), api.OK)
	mustPost(t, b, 3, 20, lines(1, -7, 4, 7), api.OK)
	mustPost(t, b, 4, 30, lines(1, 7, 4, -7), api.OK)
	const text = "0-10,11-20,0-20,21-99|@1;@2;@3;!3;#3;#1;!1"
	const want = "70,-77,-7,7;70,-70,0,0;70,-70,0,0;70,-70,0,0;1,1,2,0;1,2,3,1;0,-7,-7,7"
	mustReport(t, b, text, want)
	for _, account := range []int{3, 2, 1, 4} {
		mustClose(t, b, account, api.OK)
		mustReport(t, b, text, want)
	}
}

func TestReportOfDays(t *testing.T) {
	b := bookOf(t, 0, 0)
	for i, day := range []int{0, 9, 10, 11, 998, 999} {
		amount := 1 << i
		mustPost(t, b, i, day, lines(1, amount, 2, -amount), api.OK)
	}
	for _, c := range []struct{ period, want string }{
		{"0-0", "1;1;-1"}, {"1-8", "0;0;0"}, {"0-8", "1;1;-1"}, {"9-9", "2;1;-2"}, {"10-10", "4;1;-4"}, {"9-10", "6;2;-6"}, {"10-11", "12;2;-12"}, {"9-11", "14;3;-14"}, {"0-11", "15;4;-15"}, {"12-997", "0;0;0"}, {"11-997", "8;1;-8"}, {"12-998", "16;1;-16"},
		{"998-998", "16;1;-16"}, {"999-999", "32;1;-32"}, {"998-999", "48;2;-48"}, {"0-999", "63;6;-63"}, {"1-999", "62;5;-62"}, {"0-998", "31;5;-31"}, {"000-009", "3;2;-3"}, {"010-011", "12;2;-12"},
	} {
		mustReport(t, b, c.period+"|@1;#1;!2", c.want)
	}
	// periods need not be in any order, and may share days
	mustReport(t, b, "9-10,0-999,9-9,0-0|@1;<0;#2", "6,63,2,1;0,6,63,2;2,6,1,1")
	// the order of the journal does not matter
	mustPost(t, b, 50, 5, lines(1, 64, 2, -64), api.OK)
	mustReport(t, b, "0-5,6-999|@1;#1", "65,62;2,5")
}

func TestReportOfRows(t *testing.T) {
	b := exampleBook(t)
	mustReport(t, b, "0-30,31-60|@1;$0;<0;-<0;$0+$0", "500,70;500,70;0,500;0,-500;1000,140")
	// the period ahead is the one in the text, not in time; four periods, each with the one ahead
	mustReport(t, b, "40-40,10-10|@1;<0;<1", "70,500;0,70;0,0")
	mustReport(t, b, "0-9,10-10,11-40,40-99|@1;<0;$0-<0;<1;<3;#1+<2/@1*1", "0,500,70,70;0,0,500,70;0,500,-430,0;0,0,0,500;0,0,0,0;z,1,8,-5")
	mustReport(t, b, "0-9,0-99|5;<0", "5,5;0,5")
	// in the first period < is 0, whatever its row comes to
	mustReport(t, b, "0-9,0-9|1/0;<0;999999999999999999*10;<2;-<0;1/<2", "z,z;0,z;o,o;0,o;0,z;z,o")
	mustReport(t, b, "0-9|1/0;<0;7;<2", "z;0;7;0")
	// a row far ahead, and each of them
	mustReport(t, b, "0-9,0-9|1;$0+1;$1+1;$2+1;$3+1;$4+1;$5+1;$0*$6+<6", "1,1;2,2;3,3;4,4;5,5;6,6;7,7;7,14")
	mustReport(t, b, "0-9|1;2;3;4;5;6;7;$0+$1*10+$2*100+$3*1000+$4*10000+$5*100000+$6*1000000", "1;2;3;4;5;6;7;7654321")
	// a running sum over the periods goes one row back each time
	mustReport(t, b, "0-10,11-20,21-30,31-40|@1;$0+<0;$1+<1;$2+<2", "500,0,0,70;500,500,0,70;500,1000,500,70;500,1500,1500,570")
}

func TestReportOfOperations(t *testing.T) {
	for _, c := range []struct{ row, want string }{
		{"0", "0"}, {"000", "0"}, {"-0", "0"}, {"007", "7"}, {"--7", "7"}, {"---7", "-7"}, {"1+2*3", "7"}, {"(1+2)*3", "9"}, {"8-3-2", "3"}, {"8-(3-2)", "7"}, {"8/2*3", "12"}, {"8/(2*3)", "1"}, {"100/7/2", "7"}, {"100/(7/2)", "33"}, {"2-3", "-1"}, {"-2*3", "-6"}, {"2*-3", "-6"}, {"-2*-3", "6"}, {"0*-5", "0"}, {"-(2+3)*4", "-20"}, {"-(2*3)", "-6"}, {"1--1", "2"}, {"1-1", "0"}, {" ( 1 + 2 ) ", "3"},
		// what stands behind the point is dropped, below 0 as above
		{"7/2", "3"}, {"-7/2", "-3"}, {"7/-2", "-3"}, {"-7/-2", "3"}, {"-(7/2)", "-3"}, {"1/2", "0"}, {"-1/2", "0"}, {"1/-2", "0"}, {"-1/-2", "0"}, {"-6/2", "-3"}, {"-8/3", "-2"}, {"0/5", "0"}, {"0/-5", "0"}, {"-999999999999999999/1000000000000", "-999999"}, {"7/7", "1"}, {"7/-8", "0"},
		// by zero
		{"1/0", "z"}, {"-1/0", "z"}, {"0/0", "z"}, {"1/(1-1)", "z"}, {"1/-0", "z"}, {"1/(1/2)", "z"}, {"0/1", "0"},
	} {
		mustCome(t, c.want, c.row)
	}
}

func TestReportOfMoney(t *testing.T) {
	b := exampleBook(t)
	mustReport(t, b, "0-99|@1*2;3*@1;@1/4;-@1;@1/@3;!1-!3;@3/-7;@1+@3", "1140;1710;142;-570;-1;1070;81;0")
	mustReport(t, b, "0-9|@1/#1;@1/@1;@1*#1;-#1;#1/3", "z;z;0;0;0")
}

// cellsOf: a row for each sort of cell.
var cellsOf = []struct{ row, cell string }{{"1/0", "z"}, {"999999999999999999*99", "o"}, {"0", "0"}, {"6", "6"}}

// TestReportOfZAndO lays each sort of cell to the left and to the right of each operation, as a row's name and as a
// piece of the row itself.
func TestReportOfZAndO(t *testing.T) {
	known := map[string]string{"0+0": "0", "0+6": "6", "6+0": "6", "6+6": "12", "0-0": "0", "0-6": "-6", "6-0": "6", "6-6": "0", "0*0": "0", "0*6": "0", "6*0": "0", "6*6": "36", "0/0": "z", "0/6": "0", "6/0": "z", "6/6": "1"}
	for _, left := range cellsOf {
		for _, right := range cellsOf {
			for _, sign := range []string{"+", "-", "*", "/"} {
				want := known[left.cell+sign+right.cell]
				if right.cell == "z" || right.cell == "o" {
					want = right.cell
				}
				if left.cell == "z" || left.cell == "o" {
					want = left.cell
				}
				mustCome(t, left.cell+";"+right.cell+";"+want+";"+want, left.row, right.row, "$0"+sign+"$1", "("+left.row+")"+sign+"("+right.row+")")
			}
		}
	}
	mustCome(t, "z;z;z;o;o;o;0", "-(1/0)", "-$0", "--(1/0)", "-(999999999999999999*99)", "-$3", "--$3", "-0")
	// what has come first stays
	mustCome(t, "z;o;z;z;o;z", "1/0+999999999999999999*99", "999999999999999999*99+1/0", "0*(1/0)", "1/0*0", "0*(999999999999999999*99)", "1/(1/0)")
	mustCome(t, "o;z;z;o", "1+(999999999999999999*99-1/0)*0", "1-(1/0/(999999999999999999*99))", "1/0/0", "999999999999999999*99/0")
}

func TestReportAtTheEndsOfAWholeNumber(t *testing.T) {
	const g, l = "9223372036854775807", "-9223372036854775808"
	for _, c := range []struct{ row, want string }{
		// greatest and least are rows 0 and 1
		{"$0", g}, {"$1", l}, {"$0+0", g}, {"$0+1", "o"}, {"1+$0", "o"}, {"$0+$0", "o"}, {"$0+$1", "-1"}, {"$1+$0", "-1"}, {"$1+1", "-9223372036854775807"}, {"$1+-1", "o"}, {"-1+$1", "o"}, {"$1+$1", "o"}, {"$0+-1+1", g}, {"-$0+-1", l}, {"-1+-$0", l}, {"-$0+-2", "o"},
		{"$0-0", g}, {"$0-1", "9223372036854775806"}, {"$0--1", "o"}, {"$0-$0", "0"}, {"$0-$1", "o"}, {"$1-$0", "o"}, {"$1-$1", "0"}, {"$1-1", "o"}, {"$1--1", "-9223372036854775807"}, {"0-$0", "-9223372036854775807"}, {"0-$1", "o"}, {"-1-$1", g}, {"1-$1", "o"}, {"-1-$0", l}, {"-2-$0", "o"},
		{"-$0", "-9223372036854775807"}, {"--$0", g}, {"-$1", "o"}, {"--$1", "o"}, {"-($1+1)", g},
		{"$0*1", g}, {"$0*-1", "-9223372036854775807"}, {"-1*$0", "-9223372036854775807"}, {"$0*0", "0"}, {"$0*2", "o"}, {"2*$0", "o"}, {"$0*-2", "o"}, {"$0*$0", "o"}, {"$0*$1", "o"}, {"$1*$0", "o"}, {"$1*$1", "o"}, {"$1*1", l}, {"1*$1", l}, {"$1*-1", "o"}, {"-1*$1", "o"}, {"$1*0", "0"}, {"0*$1", "0"}, {"$1*2", "o"}, {"$1/2*2", l}, {"$1/-2*2", "o"}, {"$1/-2*-2", l}, {"$0/2*2", "9223372036854775806"}, {"($0/2+1)*2", "o"}, {"($1/2-1)*2", "o"},
		{"$0/1", g}, {"$0/-1", "-9223372036854775807"}, {"$1/1", l}, {"$1/-1", "o"}, {"($1+1)/-1", g}, {"$1/2", "-4611686018427387904"}, {"$1/-2", "4611686018427387904"}, {"$1/$1", "1"}, {"$0/$0", "1"}, {"$0/$1", "0"}, {"$1/$0", "-1"}, {"1/$0", "0"}, {"-1/$1", "0"}, {"$0/0", "z"}, {"$1/0", "z"}, {"$1/(0-1)", "o"},
		// roots and powers of two
		{"3037000499*3037000499", "9223372030926249001"}, {"3037000500*3037000500", "o"}, {"-3037000500*3037000500", "o"}, {"-3037000500*-3037000500", "o"}, {"4294967296*2147483648", "o"}, {"4294967296*-2147483648", l}, {"-4294967296*2147483648", l}, {"-4294967296*-2147483648", "o"}, {"4294967296*4294967296", "o"}, {"4294967296*2147483647", "9223372032559808512"},
		// a product that goes round to a small number is still o
		{"4294967296*4294967296*0", "o"}, {"6148914691236517*3000", "o"}, {"999999999999999999*18446744073", "o"},
	} {
		mustCome(t, g+";"+l+";"+c.want, greatest, least, c.row)
	}
}

func TestReportAtItsBounds(t *testing.T) {
	b := daybook.New()
	// MaxText
	mustReport(t, b, "0-9|"+repeat(" ", 195)+"1", "1")
	mustReport(t, b, "0-9|"+repeat("-", 195)+"1", "-1")
	mustReport(t, b, "0-9|"+repeat("-", 194)+"@0", "0")
	mustReport(t, b, "0-9|"+repeat("(", 97)+"10"+repeat(")", 97), "10")
	mustReport(t, b, "0-9|"+times("1", "+", 98), "98")
	mustReport(t, b, "0-9|"+times("1", "-", 98), "-96")
	mustReport(t, b, "0-9|1"+repeat("-(1", 48)+repeat(")", 48), "1")
	mustReport(t, b, "0-9|"+times("2", "*", 62), "4611686018427387904")
	mustReport(t, b, "0-9|"+times("2", "*", 63), "o")
	mustReport(t, b, "0-9|-"+times("2", "*", 63), "-9223372036854775808")
	// MaxPeriods, MaxRows, MaxDigits
	mustReport(t, b, times("0-999", ",", 4)+"|"+times("1", ";", 8), times("1,1,1,1", ";", 8))
	mustReport(t, b, "0-9|999999999999999999;-999999999999999999;000000000000000001", "999999999999999999;-999999999999999999;1")
	// the longest cells
	mustReport(t, b, "0-9,0-9,0-9,0-9|"+least+repeat(";$0", 7), times(times("-9223372036854775808", ",", 4), ";", 8))
}

// TestReportOfAFullBook asks for the greatest sums that a book can come to.
func TestReportOfAFullBook(t *testing.T) {
	b := bookOf(t, 0, 1, 2, 3, 4, 5, 6, 7, 8, 9, 10, 11, 12, 13, 0)
	for i := range api.MaxPosts {
		mustPost(t, b, i, i%2*api.MaxDay, lines(14, api.MaxAmount, 15, -api.MaxAmount, 13, api.MaxAmount, 15, -api.MaxAmount), api.OK)
	}
	mustReport(t, b, "0-0,999-999,0-999,1-998|@1;!14;@15;#0;#14;@0", "64000000000000,64000000000000,128000000000000,0;32000000000000,32000000000000,64000000000000,0;"+
		"-64000000000000,-64000000000000,-128000000000000,0;128,128,256,0;32,32,64,0;0,0,0,0")
	// 128000000000000 times 72057 is 9223296000000000000
	mustReport(t, b, "0-999|@1*72057;@1*72058;@15*72057;@15*72058;@1/@15;@1/#1", "9223296000000000000;o;-9223296000000000000;o;-1;1000000000000")
}

func TestReportsOfBooksKnowNothingOfOneAnother(t *testing.T) {
	a, b := exampleBook(t), bookOf(t, 0, 0, 0)
	const text = "0-30,31-60|@1;#1;$0-<0"
	mustReport(t, a, text, "500,70;1,1;500,-430")
	mustReport(t, b, text, "0,0;0,0;0,0")
	mustPost(t, b, 7, 10, lines(1, 4, 2, -4), api.OK)
	mustReport(t, a, text, "500,70;1,1;500,-430")
	mustReport(t, b, text, "4,0;1,0;4,-4")
	mustNotReport(t, a, "0-9|1+", api.ErrForm)
	mustReport(t, a, text, "500,70;1,1;500,-430")
}

// hasAll tells whether a book of so many accounts has those that a plain form names.
func hasAll(plain string, count int) bool {
	for _, name := range accountName.FindAllStringSubmatch(plain, -1) {
		if n, err := strconv.Atoi(name[1]); err != nil || n >= count {
			return false
		}
	}
	return true
}

var accountName = regexp.MustCompile(`[@!#]([0-9]+)`)

func TestReportOfAnyText(t *testing.T) {
	books := []*daybook.Book{daybook.New(), exampleBook(t), bookOf(t, 0, 1, 2, 3, 4, 5, 6, 7, 8, 9, 10, 11, 12, 13, 14)}
	counts := []int{1, 4, 16}
	seen := map[api.Errno]int{}
	for _, text := range someTexts() {
		check, _ := daybook.Check(text)
		plain, _ := daybook.Show(text)
		for i, b := range books {
			want := first(reason{check != api.OK, check}, reason{!hasAll(plain, counts[i]), api.ErrAccount})
			got, e := b.Report(text)
			if e != want || (got == "") != (want != api.OK) {
				t.Errorf("P10: Report(%.200q) = %q, %d, want %d", text, got, e, want)
			}
			if again, f := b.Report(plain); check == api.OK && (again != got || f != e) {
				t.Errorf("P4, P10: Report(%.200q) = %q, %d, but of its plain form %q, %d", text, got, e, again, f)
			}
			seen[e]++
		}
	}
	for _, e := range []api.Errno{api.OK, api.ErrLong, api.ErrForm, api.ErrType, api.ErrAccount} {
		if seen[e] < 10 {
			t.Errorf("the answer %d has come up %d times only", e, seen[e])
		}
	}
	mustTell(t, books[0], "", "")
	mustTell(t, books[1], "0,1,0", "7:10,1:500,3:-500;8:40,2:70,3:-70")
}
