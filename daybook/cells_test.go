package daybook_test

import (
	"math/big"
	"math/rand"
	"strconv"
	"strings"
	"testing"

	"daybook/api"
	"daybook/daybook"
)

// growRow: a tree that is of a kind. kinds has the kinds of the rows ahead; accounts are named up to count, and now and
// then beyond.
func growRow(r *rand.Rand, operands int, kinds []bool, money bool, count int) *tree {
	if r.Intn(6) == 0 {
		return &tree{sign: '~', left: growRow(r, operands, kinds, money, count)}
	}
	if operands == 1 {
		return growOperand(r, kinds, money, count)
	}
	sign := "+-*/"[r.Intn(4)]
	left, right := money, money
	switch {
	case sign == '*' && money && r.Intn(2) == 0:
		left = false
	case money && (sign == '*' || sign == '/'):
		right = false
	case sign == '/' && r.Intn(2) == 0:
		left, right = true, true
	}
	share := 1 + r.Intn(operands-1)
	return &tree{sign: sign, left: growRow(r, share, kinds, left, count), right: growRow(r, operands-share, kinds, right, count)}
}

func growOperand(r *rand.Rand, kinds []bool, money bool, count int) *tree {
	if len(kinds) > 0 && r.Intn(3) == 0 {
		if row := r.Intn(len(kinds)); kinds[row] == money {
			return &tree{sign: "$<"[r.Intn(2)], number: row}
		}
	}
	account := r.Intn(count)
	if r.Intn(200) == 0 {
		account = r.Intn(100)
	}
	if money {
		return &tree{sign: "@!"[r.Intn(2)], number: account}
	}
	if r.Intn(3) == 0 {
		return &tree{sign: '#', number: account}
	}
	return &tree{sign: 'n', number: numbers[r.Intn(len(numbers))]}
}

// accounts: those that a tree names.
func (t *tree) accounts() []int {
	if t == nil {
		return nil
	}
	list := append(t.left.accounts(), t.right.accounts()...)
	if t.isOneOf("@!#") {
		list = append(list, t.number)
	}
	return list
}

// isBelow tells whether an account is another, or lies anywhere below it.
func (m *model) isBelow(account int, above int) bool {
	for account > 0 && account != above {
		account = m.parents[account-1]
	}
	return account == above
}

// movements: the cells of @, ! and # of all accounts of a book in a period, out of the journal's text.
func (m *model) movements(first, last int) map[string]value {
	is := map[string]value{}
	for n := range len(m.parents) + 1 {
		deep, alone, count := new(big.Int), new(big.Int), new(big.Int)
		for _, text := range m.journal {
			fields := strings.Split(text, ",")
			_, dayText, _ := strings.Cut(fields[0], ":")
			day, _ := strconv.Atoi(dayText)
			if day < first || last < day {
				continue
			}
			for _, field := range fields[1:] {
				accountText, amountText, _ := strings.Cut(field, ":")
				account, _ := strconv.Atoi(accountText)
				amount, _ := new(big.Int).SetString(amountText, 10)
				if account == n {
					alone.Add(alone, amount)
				}
				if m.isBelow(account, n) {
					deep.Add(deep, amount)
					count.Add(count, big.NewInt(1))
				}
			}
		}
		is["@"+number(n)], is["!"+number(n)], is["#"+number(n)] = value{number: deep}, value{number: alone}, value{number: count}
	}
	return is
}

// madeUp: a report with its text, and the trees of its rows.
type madeUp struct {
	text    string
	periods [][2]int
	rows    []*tree
}

func makeUp(r *rand.Rand, accounts int) madeUp {
	days := []int{0, 0, 1, 2, 3, 998, 999, 999}
	var u madeUp
	var periods, rows []string
	for range 1 + r.Intn(4) {
		first, last := days[r.Intn(len(days))], days[r.Intn(len(days))]
		first, last = min(first, last), max(first, last)
		u.periods = append(u.periods, [2]int{first, last})
		periods = append(periods, number(first)+"-"+number(last))
	}
	var kinds []bool
	for range 1 + r.Intn(8) {
		money := r.Intn(2) == 0
		tree := growRow(r, 1+r.Intn(5), kinds, money, accounts)
		kinds = append(kinds, money)
		u.rows = append(u.rows, tree)
		rows = append(rows, tree.loose(r))
	}
	u.text = strings.Join(periods, ",") + "|" + strings.Join(rows, ";")
	return u
}

// cells: what a report must come to, by the words of P10, by row and period; and what each operand with a sign is in
// each period.
func (u madeUp) cells(m *model) ([][]value, []map[string]value) {
	cells := make([][]value, len(u.rows))
	known := make([]map[string]value, len(u.periods))
	for p, days := range u.periods {
		known[p] = m.movements(days[0], days[1])
	}
	for p := range u.periods {
		for row, tree := range u.rows {
			cells[row] = append(cells[row], tree.value(known[p]))
			known[p]["$"+number(row)] = cells[row][p]
			known[p]["<"+number(row)] = value{number: new(big.Int)}
			if p > 0 {
				known[p]["<"+number(row)] = cells[row][p-1]
			}
		}
	}
	return cells, known
}

func asText(cells [][]value) string {
	var rows []string
	for _, row := range cells {
		var texts []string
		for _, cell := range row {
			texts = append(texts, cell.String())
		}
		rows = append(rows, strings.Join(texts, ","))
	}
	return strings.Join(rows, ";")
}

// mustRunTo asks that the codes of a report come to its cells in each period (P5).
func (u madeUp) mustRunTo(t *testing.T, cells [][]value, known []map[string]value) {
	t.Helper()
	code, e := daybook.Compile(u.text)
	codes := strings.Split(code, ";")
	if e != api.OK || len(codes) != len(u.rows) {
		t.Fatalf("P5: Compile(%q) = %q, %d", u.text, code, e)
	}
	for row := range u.rows {
		for p := range u.periods {
			if got, wrong := runCode(codes[row], row, known[p]); wrong != "" || got.String() != cells[row][p].String() {
				t.Fatalf("P5: Compile(%q) = %q: row %d comes to %v (%s) in period %d, want %v", u.text, code, row, got, wrong, p, cells[row][p])
			}
		}
	}
}

func TestReportsAtRandom(t *testing.T) {
	r := rand.New(rand.NewSource(10))
	seen := map[string]int{}
	for range 150 {
		p := pair{book: daybook.New(), model: newModel()}
		for range r.Intn(400) {
			p.step(t, r)
		}
		for range 60 {
			u := makeUp(r, len(p.model.parents)+1)
			if len(u.text) > api.MaxText {
				continue
			}
			missing := false
			for _, tree := range u.rows {
				for _, account := range tree.accounts() {
					missing = missing || !p.model.has(account)
				}
			}
			if missing {
				mustNotReport(t, p.book, u.text, api.ErrAccount)
				seen["missing"]++
				continue
			}
			cells, known := u.cells(p.model)
			mustReport(t, p.book, u.text, asText(cells))
			u.mustRunTo(t, cells, known)
			for _, row := range cells {
				for _, cell := range row {
					seen[cell.bad]++
				}
			}
			if t.Failed() {
				return
			}
		}
		mustTell(t, p.book, p.model.accounts(), strings.Join(p.model.journal, ";"))
	}
	for _, sort := range []string{"", "z", "o", "missing"} {
		if seen[sort] < 100 {
			t.Errorf("too few of a sort: %v", seen)
		}
	}
}
