package daybook_test

import (
	"math/big"
	"math/rand"
	"regexp"
	"strconv"
	"strings"
	"testing"

	"daybook/api"
	"daybook/daybook"
)

// the ends of a whole number, as a report can write them
const (
	greatest = "(999999999999999999*9+223372036854775816)"
	least    = "(-999999999999999999*9-223372036854775817)"
)

func TestCompile(t *testing.T) {
	for _, c := range []struct {
		row, want string
	}{
		{"1+2*3", "7"}, {"1/0", "1 0 /"}, {"@1*(2+3)", "@1 5 *"}, {"8-3-2", "3"}, {"8/2*3", "12"}, {"8/(2*3)", "1"}, {"-7/2", "-3"}, {"7/-2", "-3"}, {"-0", "0"}, {"0*-1", "0"}, {"000", "0"}, {"--7", "7"},
		{"@01-!02+@03*#04", "@1 !2 - @3 #4 * +"}, {"-(#1+#2)", "#1 #2 + ~"}, {"#1--1", "#1 -1 -"}, {"-#1*2", "#1 ~ 2 *"}, {"#1+1+2", "#1 1 + 2 +"}, {"#1+(1+2)", "#1 3 +"}, {"1+2+#1", "3 #1 +"},
		// z and o stay, and nothing goes on with them
		{"-(1/0)", "1 0 / ~"}, {"1/0*0", "1 0 / 0 *"}, {"(2+3)/(1-1)", "5 0 /"}, {"0/0", "0 0 /"}, {"1/0-(2+3)", "1 0 / 5 -"}, {"(2+3)-1/0", "5 1 0 / -"}, {"999999999999999999*10", "999999999999999999 10 *"},
		// the ends of a whole number
		{greatest, "9223372036854775807"}, {least, "-9223372036854775808"}, {greatest + "+1", "9223372036854775807 1 +"}, {greatest + "+0", "9223372036854775807"}, {least + "-1", "-9223372036854775808 1 -"}, {least + "+1", "-9223372036854775807"}, {"-" + greatest, "-9223372036854775807"}, {"-" + least, "-9223372036854775808 ~"}, {"--" + least, "-9223372036854775808 ~ ~"},
		{least + "/-1", "-9223372036854775808 -1 /"}, {least + "*-1", "-9223372036854775808 -1 *"}, {"-1*" + least, "-1 -9223372036854775808 *"}, {least + "*1", "-9223372036854775808"}, {least + "/1", "-9223372036854775808"}, {"0-" + least, "0 -9223372036854775808 -"}, {"-1-" + least, "9223372036854775807"}, {least + "/0", "-9223372036854775808 0 /"}, {greatest + "*-1", "-9223372036854775807"}, {greatest + "*2", "9223372036854775807 2 *"}, {"4294967296*2147483648", "4294967296 2147483648 *"}, {"4294967296*-2147483648", "-9223372036854775808"},
	} {
		if code, errno := daybook.Compile("0-9|" + c.row); code != c.want || errno != api.OK {
			t.Errorf("P5: Compile(0-9|%s) = %q, %d, want %q", c.row, code, errno, c.want)
		}
	}
	for _, c := range []struct {
		text, want string
	}{
		{"0-9|-#1;$0-1*-1", "#1 ~;$0 -1 -"}, {" 0-9, 1-2 | 1 ; $0 + <0 ; (2) ", "1;$0 <0 +;2"}, {"0-9|" + times("1", ";", 8), times("1", ";", 8)}, {"0-9|" + repeat("-", 195) + "1", "-1"}, {"0-9|" + repeat("-", 194) + "#1", "#1" + repeat(" ~", 194)}, {"0-9|" + times("1", "+", 98), "98"},
	} {
		if code, errno := daybook.Compile(c.text); code != c.want || errno != api.OK {
			t.Errorf("P5: Compile(%.60q) = %q, %d, want %q", c.text, code, errno, c.want)
		}
	}
}

func TestCompileOfWrongTexts(t *testing.T) {
	for _, c := range wrongTexts {
		if code, errno := daybook.Compile(c.text); code != "" || errno != c.errno {
			t.Errorf("P5: Compile(%.60q) = %q, %d, want %d", c.text, code, errno, c.errno)
		}
	}
}

var (
	numberWord  = regexp.MustCompile(`^(0|-?[1-9][0-9]*)$`)
	accountWord = regexp.MustCompile(`^[@!#](0|[1-9][0-9]?)$`)
	rowWord     = regexp.MustCompile(`^[$<][0-9]$`)
)

// laid: a cell on the pile, with whether it is a number's own.
type laid struct {
	value  value
	number bool
}

// runCode works out a code as P5 says it, and tells what is wrong with it.
func runCode(code string, row int, is map[string]value) (value, string) {
	var pile []laid
	for _, word := range strings.Split(code, " ") {
		k := len(pile)
		switch {
		case numberWord.MatchString(word):
			n, ok := new(big.Int).SetString(word, 10)
			if !ok || !n.IsInt64() {
				return value{}, "no whole number: " + word
			}
			pile = append(pile, laid{value{number: n}, true})
		case accountWord.MatchString(word) || rowWord.MatchString(word) && int(word[1]-'0') < row:
			pile = append(pile, laid{value: is[word]})
		case word == "~" && k > 0:
			result := opposite(pile[k-1].value)
			if pile[k-1].number && result.bad == "" {
				return value{}, "a number with ~ behind it"
			}
			pile[k-1] = laid{value: result}
		case len(word) == 1 && strings.Contains("+-*/", word) && k > 1:
			result := joined(word[0], pile[k-2].value, pile[k-1].value)
			if pile[k-2].number && pile[k-1].number && result.bad == "" {
				return value{}, "two numbers with " + word + " behind them"
			}
			pile = append(pile[:k-2], laid{value: result})
		default:
			return value{}, "no word, or nothing for it: " + word
		}
	}
	if len(pile) != 1 {
		return value{}, strconv.Itoa(len(pile)) + " cells are left"
	}
	return pile[0].value, ""
}

// someCells: cells for every operand with a sign; rows come to z and o too.
func someCells(r *rand.Rand) map[string]value {
	ends := []int64{0, 0, 1, -1, 2, -2, 5, 700, -30, 1000000000000, -1000000000000, 9223372036854775807, -9223372036854775808, -9223372036854775807}
	is := map[string]value{}
	for n := range 16 {
		for _, sign := range []string{"@", "!", "#", "$", "<"} {
			v := value{number: big.NewInt(ends[r.Intn(len(ends))])}
			if strings.Contains("$<", sign) && r.Intn(4) == 0 {
				v = value{bad: []string{"z", "o"}[r.Intn(2)]}
			}
			is[sign+strconv.Itoa(n)] = v
		}
	}
	return is
}

func TestCompileOfTrees(t *testing.T) {
	r := rand.New(rand.NewSource(2))
	seen := map[string]int{}
	for range 20000 {
		trees := []*tree{grow(r, 1+r.Intn(7), 0, false), grow(r, 1+r.Intn(7), 1, false)}
		text := "0-9|" + trees[0].plain() + ";" + trees[1].plain()
		if len(text) > api.MaxText {
			continue
		}
		code, errno := daybook.Compile(text)
		codes := strings.Split(code, ";")
		if errno != api.OK || len(codes) != 2 {
			t.Fatalf("P5: Compile(%q) = %q, %d", text, code, errno)
		}
		for row, tree := range trees {
			if words := strings.Count(codes[row], " ") + 1; words > tree.parts() {
				t.Fatalf("P5: Compile(%q) = %q: row %d has %d parts, but %d words", text, code, row, tree.parts(), words)
			}
			for range 3 {
				is := someCells(r)
				want := tree.value(is)
				got, wrong := runCode(codes[row], row, is)
				if wrong != "" || got.String() != want.String() {
					t.Fatalf("P5: Compile(%q) = %q: row %d comes to %v (%s), want %v", text, code, row, got, wrong, want)
				}
				seen[want.bad]++
			}
		}
	}
	if seen[""] < 1000 || seen["z"] < 1000 || seen["o"] < 1000 {
		t.Errorf("too few of a sort: %v", seen)
	}
}
