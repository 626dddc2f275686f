package codex_test

import (
	"testing"

	"cohousing/api"
	"cohousing/codex"
)

// P12.1 and P12.4: changes on the first and on the last days; none on day 0, and none behind all days.
func TestFirstAndLastChanges(t *testing.T) {
	expectChanges(t, bylaws(rules("x 0 36525 0")...), 0)
	expectChanges(t, bylaws(rules("x 1 36525 0")...), 0, 1)
	expectChanges(t, bylaws(rules("x 0 1 0")...), 0, 1)
	expectChanges(t, bylaws(rules("x 1 2 0")...), 0, 1, 2)
	expectChanges(t, bylaws(rules("x 0 36524 0")...), 0, 36524)
	expectChanges(t, bylaws(rules("x 1 36524 0")...), 0, 1, 36524)
	expectChanges(t, bylaws(rules("x 36524 36525 0")...), 0, 36524)
	expectChanges(t, bylaws(rules("x 36523 36524 0")...), 0, 36523, 36524)
	expectChanges(t, bylaws(rules("x 36523 36525 0")...), 0, 36523)
	expectChanges(t, bylaws(rules("x 0 1 0", "x 1 36525 0")...), 0, 1)
	expectChanges(t, bylaws(rules("x 0 36525 0", "x 0 1 0")...), 0, 1)
	expectChanges(t, bylaws(rules("x 0 36525 0", "x 36524 36525 0")...), 0, 36524)
	expectChanges(t, bylaws(rules("x 0 36525 0", "x 0 36525 0")...), 0)
	expectChanges(t, bylaws(rules("x 0 36525 0", "y 0 36525 0")...), 0)
}

// P12.1 and P12.4: days on which one rule ends and another one of its name begins, or one of another name: there are other rules in force than before.
func TestOneEndsAnotherBegins(t *testing.T) {
	expectChanges(t, bylaws(rules("x 10 20 0", "x 20 30 0")...), 0, 10, 20, 30)
	expectChanges(t, bylaws(rules("x 20 30 0", "x 10 20 0")...), 0, 10, 20, 30)
	expectChanges(t, bylaws(rules("x 10 20 0", "y 20 30 0")...), 0, 10, 20, 30)
	expectChanges(t, bylaws(rules("x 20 30 0", "y 10 20 0")...), 0, 10, 20, 30)
	expectChanges(t, bylaws(rules("x 10 20 0", "x 21 30 0")...), 0, 10, 20, 21, 30)
	expectChanges(t, bylaws(rules("x 10 20 0", "y 21 30 0")...), 0, 10, 20, 21, 30)
	expectChanges(t, bylaws(rules("x 10 20 0", "y 19 30 0")...), 0, 10, 19, 20, 30)
	expectChanges(t, bylaws(rules("x 10 20 0", "y 20 30 0", "z 5 20 0", "w 20 21 0")...), 0, 5, 10, 20, 21, 30)
}

// P12.1 and P12.4: days on which the same rules stay in force although a version begins or ends.
func TestNoChange(t *testing.T) {
	// The first version begins and ends under the second one.
	expectChanges(t, bylaws(rules("x 10 20 0", "x 5 30 0")...), 0, 5, 30)
	expectChanges(t, bylaws(rules("x 10 20 0", "x 10 30 0")...), 0, 10, 30)
	expectChanges(t, bylaws(rules("x 10 20 0", "x 5 20 0")...), 0, 5, 20)
	expectChanges(t, bylaws(rules("x 10 20 0", "x 15 30 0")...), 0, 10, 15, 30)
	expectChanges(t, bylaws(rules("x 10 20 0", "x 5 15 0")...), 0, 5, 15, 20)
	expectChanges(t, bylaws(rules("x 10 20 0", "x 12 18 0", "x 10 20 0")...), 0, 10, 20)
	expectChanges(t, bylaws(rules("x 10 20 0", "x 12 18 0", "x 11 19 0")...), 0, 10, 11, 19, 20)
	// The second one is not known yet.
	expectChanges(t, bylaws(rules("x 10 20 0", "x 5 30 1")...), 0, 10, 20)
	expectChanges(t, bylaws(rules("x 10 20 3", "x 5 30 4")...), 2)
	// Another rule begins or ends on the same days.
	expectChanges(t, bylaws(rules("x 10 20 0", "x 5 30 0", "y 20 30 0", "z 10 12 7")...), 6, 5, 20, 30)
	expectChanges(t, bylaws(rules("x 10 20 0", "x 5 30 0", "y 20 30 0", "z 10 12 7")...), 7, 5, 10, 12, 20, 30)
}

// P12.1: days come in increasing order, and once each, in whatever order the rules begin and end.
func TestOrderOfChanges(t *testing.T) {
	expectChanges(t, bylaws(rules("x 70 80 0", "y 50 70 0", "z 10 80 0", "v 5 9 0", "w 50 60 0")...), 0, 5, 9, 10, 50, 60, 70, 80)
	expectChanges(t, bylaws(rules("x 7 8 0", "x 5 6 0", "x 3 4 0", "x 1 2 0")...), 0, 1, 2, 3, 4, 5, 6, 7, 8)
	expectChanges(t, bylaws(rules("x 1000 2000 0", "y 1000 2000 0", "z 1000 2000 0")...), 0, 1000, 2000)
	expectChanges(t, bylaws(rules("x 9 10000 0", "y 100 1000 0")...), 0, 9, 100, 1000, 10000)
}

// P12.1: by-laws in which something is wrong come before a day that is none.
func TestErrorsOfChanges(t *testing.T) {
	right := bylaws(rules("x 5 10 0")...)
	for _, known := range []int{0, 1, 36523, 36524} {
		expectChanges(t, right, known, 5, 10)
	}
	for _, known := range []int{-1, 36525} {
		if days, e := codex.Changes(right, known); len(days) > 0 || e != api.ErrRange {
			t.Errorf("known %d: %v, %v", known, days, e)
		}
		right.Rules[0].Version = 0
		if days, e := codex.Changes(right, known); len(days) > 0 || e != api.ErrArg {
			t.Errorf("known %d: %v, %v", known, days, e)
		}
		right.Rules[0].Version = 1
	}
}
