package daybook_test

import (
	"math"
	"strconv"
	"testing"

	"daybook/api"
)

func number(n int) string { return strconv.Itoa(n) }

func TestPostTakesTheEdges(t *testing.T) {
	b := bookOf(t, 0, 1, 0)
	mustPost(t, b, 0, 0, lines(1, 1, 3, -1), api.OK)
	mustPost(t, b, api.MaxId, api.MaxDay, lines(1, api.MaxAmount, 3, -api.MaxAmount), api.OK)
	mustPost(t, b, 1, 0, lines(2, 1, 2, 2, 2, 3, 2, -6), api.OK)
	mustPost(t, b, 2, 0, lines(1, api.MaxAmount, 2, -api.MaxAmount, 2, -api.MaxAmount, 3, api.MaxAmount), api.OK)
	mustPost(t, b, 3, 0, lines(1, 1, 2, 1, 3, -2), api.OK)
	mustTell(t, b, "0,1,0", "0:0,1:1,3:-1;9999:999,1:1000000000000,3:-1000000000000;1:0,2:1,2:2,2:3,2:-6;"+
		"2:0,1:1000000000000,2:-1000000000000,2:-1000000000000,3:1000000000000;3:0,1:1,2:1,3:-2")
}

func TestPostRefusesIds(t *testing.T) {
	b := bookOf(t, 0, 1)
	for _, id := range append([]int{api.MaxId + 1}, strange...) {
		if id >= 0 && id <= api.MaxId {
			continue
		}
		mustPost(t, b, id, 0, lines(1, 1, 2, -1), api.ErrId)
		mustPost(t, b, id, -1, nil, api.ErrId)
	}
}

func TestPostRefusesDays(t *testing.T) {
	b := bookOf(t, 0, 1)
	for _, day := range append([]int{api.MaxDay + 1}, strange...) {
		if day >= 0 && day <= api.MaxDay {
			continue
		}
		mustPost(t, b, 1, day, lines(1, 1, 2, -1), api.ErrDay)
		mustPost(t, b, 1, day, nil, api.ErrDay)
	}
}

func TestPostRefusesLines(t *testing.T) {
	b := bookOf(t, 0, 1)
	many := make([]api.Line, 100000)
	for i := range many {
		many[i] = api.Line{Account: 1 + i%2, Amount: 1 - 2*(i%2)}
	}
	for _, list := range [][]api.Line{nil, {}, lines(1, 0), lines(1, 5), lines(9, 0), many[:5], many[:6], many, make([]api.Line, 5)} {
		mustPost(t, b, 1, 1, list, api.ErrLines)
	}
	mustPost(t, b, 1, 1, many[:4], api.OK)
}

func TestPostRefusesAmounts(t *testing.T) {
	b := bookOf(t, 0, 1)
	for _, amount := range []int{0, api.MaxAmount + 1, -api.MaxAmount - 1, math.MaxInt, -math.MaxInt, math.MinInt, 1 << 62} {
		mustPost(t, b, 1, 1, lines(1, amount, 2, -amount), api.ErrAmount)
		mustPost(t, b, 1, 1, lines(1, 1, 1, -1, 2, amount, 2, 1), api.ErrAmount)
		// it is named ahead of what is wrong with an account further ahead
		mustPost(t, b, 1, 1, lines(99, 1, 0, amount), api.ErrAmount)
	}
	// these would sum to 0 if they went astray unseen
	mustPost(t, b, 1, 1, lines(1, math.MinInt, 2, math.MinInt), api.ErrAmount)
	mustPost(t, b, 1, 1, lines(1, 1<<62, 1, 1<<62, 2, 1<<62, 2, 1<<62), api.ErrAmount)
}

func TestPostRefusesAccounts(t *testing.T) {
	b := bookOf(t, 0, 1, 0)
	mustClose(t, b, 3, api.OK)
	for _, account := range append([]int{0, 4, 15, 16}, strange...) {
		mustPost(t, b, 1, 1, lines(account, 1, 1, -1), api.ErrAccount)
		mustPost(t, b, 1, 1, lines(1, 1, 2, -2, account, 1), api.ErrAccount)
		// it is named ahead of ErrClosed and ErrBalance, in whichever line
		mustPost(t, b, 1, 1, lines(3, 1, account, 1), api.ErrAccount)
		mustPost(t, b, 1, 1, lines(account, 1, 3, -1), api.ErrAccount)
	}
	mustPost(t, b, 1, 1, lines(3, 1, 1, -1), api.ErrClosed)
	mustPost(t, b, 1, 1, lines(1, 1, 2, -2, 1, 3, 3, -2), api.ErrClosed)
	mustPost(t, b, 1, 1, lines(1, 1, 3, 1), api.ErrClosed)
}

func TestPostRefusesWhatDoesNotSumToNothing(t *testing.T) {
	b := bookOf(t, 0, 1)
	for _, list := range [][]api.Line{
		lines(1, 1, 2, 1), lines(1, 1, 2, -2), lines(1, -1, 2, -1), lines(1, 1, 2, -1, 1, 1), lines(1, 1, 1, 1, 2, -1, 2, -2),
		lines(1, api.MaxAmount, 2, api.MaxAmount, 1, api.MaxAmount, 2, api.MaxAmount), lines(1, api.MaxAmount, 2, -api.MaxAmount+1),
	} {
		mustPost(t, b, 1, 1, list, api.ErrBalance)
	}
}

func TestPostGoesUpToMaxPosts(t *testing.T) {
	b := bookOf(t, 0, 1, 0)
	for i := range api.MaxPosts {
		mustPost(t, b, 2*i, i, lines(1, 1+i, 2, -1-i), api.OK)
	}
	mustClose(t, b, 3, api.OK)
	mustPost(t, b, 1, 0, lines(1, 1, 2, -1), api.ErrFull)
	mustPost(t, b, api.MaxId, api.MaxDay, lines(1, 1, 2, -1), api.ErrFull)
	// all other errors are named first
	mustPost(t, b, -1, 0, lines(1, 1, 2, -1), api.ErrId)
	mustPost(t, b, 0, 0, lines(1, 1, 2, -2), api.ErrTwice)
	mustPost(t, b, 1, 1000, lines(1, 1, 2, -1), api.ErrDay)
	mustPost(t, b, 1, 0, lines(1, 1), api.ErrLines)
	mustPost(t, b, 1, 0, lines(1, 0, 2, 0), api.ErrAmount)
	mustPost(t, b, 1, 0, lines(1, 1, 4, -1), api.ErrAccount)
	mustPost(t, b, 1, 0, lines(1, 1, 3, -1), api.ErrClosed)
	mustPost(t, b, 1, 0, lines(1, 1, 2, 1), api.ErrBalance)
	// what is there already is no more than there was
	journal := b.Journal()
	for i := range api.MaxPosts {
		mustPost(t, b, 2*i, i, lines(1, 1+i, 2, -1-i), api.OK)
	}
	mustTell(t, b, "0,1,0x", journal)
}

func TestPostKnowsWhatIsThere(t *testing.T) {
	b := bookOf(t, 0, 1, 0)
	mustPost(t, b, 5, 10, lines(1, 5, 2, -5), api.OK)
	mustPost(t, b, 6, 10, lines(1, 5, 2, -5, 3, 1, 3, -1), api.OK)
	journal := "5:10,1:5,2:-5;6:10,1:5,2:-5,3:1,3:-1"
	for range 2 {
		mustPost(t, b, 6, 10, lines(1, 5, 2, -5, 3, 1, 3, -1), api.OK)
		mustPost(t, b, 5, 10, lines(1, 5, 2, -5), api.OK)
		mustTell(t, b, "0,1,0", journal)
	}
	// another day, order, account, amount, more lines, fewer: each is named ahead of every error but ErrId
	for _, day := range append([]int{0, 9, 11, api.MaxDay, api.MaxDay + 1}, strange...) {
		mustPost(t, b, 5, day, lines(1, 5, 2, -5), api.ErrTwice)
	}
	for _, list := range [][]api.Line{
		nil, {}, lines(1, 5), lines(2, -5, 1, 5), lines(1, -5, 2, 5), lines(1, 5, 2, -6), lines(1, 6, 2, -5), lines(3, 5, 2, -5), lines(1, 5, 3, -5),
		lines(1, 5, 2, -5, 3, 1, 3, -1), lines(1, 5, 2, -5, 0, 0), lines(0, 5, 2, -5), lines(1, 0, 2, 0), lines(math.MinInt, 5, 2, -5), make([]api.Line, 100),
	} {
		mustPost(t, b, 5, 10, list, api.ErrTwice)
	}
	mustPost(t, b, 6, 10, lines(1, 5, 2, -5), api.ErrTwice)
	// an account that has been closed since changes nothing
	mustPost(t, b, 7, 10, lines(2, 10, 1, -10), api.OK)
	mustClose(t, b, 2, api.OK)
	mustClose(t, b, 1, api.OK)
	mustPost(t, b, 5, 10, lines(1, 5, 2, -5), api.OK)
	mustPost(t, b, 5, 10, lines(1, 5, 2, -4), api.ErrTwice)
	mustTell(t, b, "0x,1x,0", journal+";7:10,2:10,1:-10")
}

// TestARefusedIdIsFree: what was refused is not in the journal, so its id may come again.
func TestARefusedIdIsFree(t *testing.T) {
	b := bookOf(t, 0, 1)
	mustPost(t, b, 5, 10, lines(1, 5, 2, -4), api.ErrBalance)
	mustPost(t, b, 5, 11, lines(1, 5, 2, -5), api.OK)
	mustTell(t, b, "0,1", "5:11,1:5,2:-5")
}

// TestPostNamesTheFirstError: each input has the fault of its row and of all rows behind it.
func TestPostNamesTheFirstError(t *testing.T) {
	b := bookOf(t, 0, 1, 0)
	mustPost(t, b, 5, 10, lines(1, 5, 2, -5), api.OK)
	mustClose(t, b, 3, api.OK)
	five := lines(3, 0, 0, api.MaxAmount+1, 4, 1, 3, 1, 1, 1)
	mustPost(t, b, -1, -1, five, api.ErrId)
	mustPost(t, b, 5, -1, five, api.ErrTwice)
	mustPost(t, b, 6, -1, five, api.ErrDay)
	mustPost(t, b, 6, 0, five, api.ErrLines)
	mustPost(t, b, 6, 0, five[:1], api.ErrLines)
	mustPost(t, b, 6, 0, five[:2], api.ErrAmount)
	mustPost(t, b, 6, 0, five[2:], api.ErrAccount)
	mustPost(t, b, 6, 0, five[3:], api.ErrClosed)
	mustPost(t, b, 6, 0, lines(1, 1, 2, 1), api.ErrBalance)
}

// TestPostLeavesTheListToItsOwner: the list and its spare room are read alone, and not kept.
func TestPostLeavesTheListToItsOwner(t *testing.T) {
	b := bookOf(t, 0, 1, 0)
	list := lines(1, 5, 2, -5, 3, 9, 3, -9, 2, 4)
	before := append([]api.Line{}, list...)
	posts := []struct {
		id, first, last int
		want            api.Errno
	}{{1, 0, 2, api.OK}, {1, 0, 2, api.OK}, {1, 0, 3, api.ErrTwice}, {2, 0, 4, api.OK}, {3, 0, 3, api.ErrBalance}, {3, 0, 0, api.ErrLines}, {3, 0, 5, api.ErrLines}, {-1, 0, 2, api.ErrId}, {3, 2, 4, api.OK}}
	for _, p := range posts {
		mustPost(t, b, p.id, 1, list[p.first:p.last], p.want)
		for i := range list {
			if list[i] != before[i] {
				t.Fatalf("P2: Post of lines %d to %d has changed line %d to %v", p.first, p.last, i, list[i])
			}
		}
	}
	journal := "1:1,1:5,2:-5;2:1,1:5,2:-5,3:9,3:-9;3:1,3:9,3:-9"
	for i := range list {
		list[i] = api.Line{Account: 1, Amount: 77}
	}
	mustTell(t, b, "0,1,0", journal)
	mustPost(t, b, 1, 1, list[:2], api.ErrTwice)
	mustPost(t, b, 1, 1, before[:2], api.OK)
	mustClose(t, b, 3, api.OK)
	mustTell(t, b, "0,1,0x", journal)
}
