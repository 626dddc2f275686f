package calendar_test

import (
	"math"
	"slices"
	"testing"

	"cohousing/api"
	"cohousing/calendar"
)

// run returns a number of days in succession.
func run(from, count int) []int {
	l := make([]int, count)
	for i := range l {
		l[i] = from + i
	}
	return l
}

// holidayLists are none, one, some one after the other and beside weekends, 100 of them, and those at both ends of all days.
func holidayLists() [][]int {
	every := make([]int, 100)
	for i := range every {
		every[i] = i * 365
	}
	workdays := make([]int, 0, 100)
	for day := 2; len(workdays) < 100; day++ {
		if weekdayOf(day) < 5 {
			workdays = append(workdays, day)
		}
	}
	return [][]int{
		nil, {}, {0}, {9}, {7}, {1, 2}, {6, 9}, {9, 10}, {2, 3, 4, 5, 6}, {6, 7, 8, 9}, {9, 10, 11, 12, 13, 16}, {last}, {last - 1}, {last - 3, last}, {0, last},
		every, workdays, run(0, 100), run(2, 100), run(last-99, 100), run(last-100, 100), run(last-4, 5),
	}
}

// noHolidays are lists that are not in order, have a day twice, have what is no day, or are too long.
func noHolidays() [][]int {
	lists := [][]int{
		{2, 1}, {1, 1}, {0, 0}, {3, 5, 4}, {3, 5, 5}, {5, 3, 7}, {last, 0}, {last, last}, {1, 2, 3, 2}, {0, -1},
		run(0, 101), run(1000, 102), run(0, 1000), run(last-100, 101), slices.Repeat([]int{5}, 101),
	}
	for _, bad := range noDays() {
		lists = append(lists, []int{bad}, []int{5, bad}, []int{bad, 5}, []int{0, bad, last}, append(run(0, 99), bad), append([]int{bad}, run(1, 99)...))
	}
	return lists
}

// isFree reports whether a day is on a weekend, or among the holidays.
func isFree(day int, holidays []int) bool {
	return weekdayOf(day) > 4 || slices.Contains(holidays, day)
}

// days are around both ends of all days, and some in the middle.
func days() []int {
	return append(append(run(0, 40), run(18000, 9)...), run(last-40, 41)...)
}

// times are the numbers of days that a time can have, as far as they are tested.
func times() []int { return append(run(0, 15), 20, 30, 36, 37, 40, 100, 365, 998, 999, 1000) }

// P3.1, C6: weekends, holidays, those on weekends, and none.
func TestWorking(t *testing.T) {
	for _, x := range []struct {
		day      int
		holidays []int
		want     bool
	}{
		{0, nil, false}, {1, nil, false}, {2, nil, true}, {6, nil, true}, {7, nil, false}, {8, nil, false}, {9, nil, true},
		{9, []int{9}, false}, {9, []int{8}, true}, {9, []int{8, 10}, true}, {9, []int{1, 2, 9}, false}, {9, []int{9, 10, 11}, false}, {9, []int{8, 9, 10}, false}, {7, []int{7}, false},
		{0, []int{0}, false}, {last, nil, true}, {last, []int{last}, false}, {last, []int{last - 1}, true}, {99, run(0, 100), false}, {100, run(0, 100), true}, {0, run(0, 100), false},
	} {
		if got, e := calendar.Working(x.day, x.holidays); got != x.want || e != api.OK {
			t.Errorf("Working(%d, %v): %v, %v", x.day, x.holidays, got, e)
		}
	}
	for _, holidays := range holidayLists() {
		for day := 0; day <= last; day++ {
			if got, e := calendar.Working(day, holidays); got == isFree(day, holidays) || e != api.OK {
				t.Errorf("Working(%d, %v): %v, %v", day, holidays, got, e)
			}
		}
	}
}

// P3.6: of seven days in succession, five are working days, less those of the five that are holidays.
func TestWorkingDays(t *testing.T) {
	for _, holidays := range holidayLists() {
		for first := 0; first+6 <= last; first++ {
			want, got := 5, 0
			for _, day := range run(first, 7) {
				if must[bool](t)(calendar.Working(day, holidays)) {
					got++
				}
			}
			from, _ := slices.BinarySearch(holidays, first)
			for _, day := range holidays[from:] {
				if day > first+6 {
					break
				}
				if must[int](t)(calendar.Weekday(day)) < 5 {
					want--
				}
			}
			if got != want {
				t.Errorf("%d working days from %d on, holidays %v; want %d", got, first, holidays, want)
			}
		}
	}
}

// P3.1, C6, and P1: what is no day is refused before what are no holidays.
func TestWorkingErrors(t *testing.T) {
	for _, bad := range noDays() {
		for _, holidays := range append(holidayLists(), noHolidays()...) {
			if got, e := calendar.Working(bad, holidays); got || e != api.ErrRange {
				t.Errorf("Working(%d, %v): %v, %v", bad, holidays, got, e)
			}
		}
	}
	for _, holidays := range noHolidays() {
		for _, day := range []int{0, 2, 5, 3000, last - 1, last} {
			if got, e := calendar.Working(day, holidays); got || e != api.ErrArg {
				t.Errorf("Working(%d, %v): %v, %v", day, holidays, got, e)
			}
		}
	}
}

// P3.1, C7: the examples; times of no day; weekends and holidays one after the other; the longest time; the end of all days.
func TestDeadline(t *testing.T) {
	for _, x := range []struct {
		day, days, how int
		holidays       []int
		want           int
		e              api.Errno
	}{
		{2, 5, api.ByHand, nil, 9, api.OK},
		{2, 5, api.ByHand, []int{9}, 10, api.OK},
		{2, 4, api.ByPost, nil, 9, api.OK},
		{44, 14, api.ByHand, nil, 58, api.OK},
		{2, 0, api.ByHand, nil, 2, api.OK},
		{2, 0, api.ByHand, []int{2}, 3, api.OK},
		{2, 0, api.ByPost, nil, 5, api.OK},
		{4, 0, api.ByPost, nil, 9, api.OK},
		{0, 0, api.ByHand, nil, 2, api.OK},
		{0, 0, api.ByPost, nil, 3, api.OK},
		{6, 0, api.ByHand, nil, 6, api.OK},
		{7, 0, api.ByHand, nil, 9, api.OK},
		{0, 6, api.ByHand, []int{0, 1, 2}, 6, api.OK},
		{0, 6, api.ByHand, []int{6, 9}, 10, api.OK},
		{0, 5, api.ByHand, []int{5, 6, 7, 9, 10}, 11, api.OK},
		{0, 4, api.ByHand, run(2, 100), 102, api.OK},
		{2, 1000, api.ByHand, nil, 1003, api.OK},
		{2, 1000, api.ByPost, nil, 1005, api.OK},
		{2, 1001, api.ByHand, nil, 0, api.ErrArg},
		{2, -1, api.ByHand, nil, 0, api.ErrArg},
		{2, -1, api.ByPost, nil, 0, api.ErrArg},
		{2, 5, 0, nil, 0, api.ErrArg},
		{2, 5, 3, nil, 0, api.ErrArg},
		{2, 5, -1, nil, 0, api.ErrArg},
		{2, 5, api.ByHand, []int{9, 9}, 0, api.ErrArg},
		{2, 5, api.ByHand, run(0, 101), 0, api.ErrArg},
		{2, 5, api.ByHand, run(0, 100), 100, api.OK},
		{last, 0, api.ByHand, nil, last, api.OK},
		{last, 0, api.ByHand, []int{last}, 0, api.ErrRange},
		{last, 1, api.ByHand, nil, 0, api.ErrRange},
		{last, 0, api.ByPost, nil, 0, api.ErrRange},
		{last - 3, 0, api.ByPost, nil, last, api.OK},
		{last - 3, 1, api.ByPost, nil, 0, api.ErrRange},
		{last - 1, 0, api.ByHand, []int{last - 1}, last, api.OK},
		{last - 1, 0, api.ByHand, []int{last - 1, last}, 0, api.ErrRange},
		{last - 1000, 1000, api.ByHand, nil, last, api.OK},
		{last - 1000, 1000, api.ByPost, nil, 0, api.ErrRange},
		{last, 1000, api.ByPost, nil, 0, api.ErrRange},
		{last, 1001, api.ByPost, nil, 0, api.ErrArg},
		{last + 1, 5, api.ByHand, nil, 0, api.ErrRange},
		{-1, 5, api.ByHand, nil, 0, api.ErrRange},
		{-3, 5, api.ByPost, nil, 0, api.ErrRange},
	} {
		if got, e := calendar.Deadline(x.day, x.days, x.how, x.holidays); got != x.want || e != x.e {
			t.Errorf("Deadline(%d, %d, %d, %v): %d, %v; want %d, %v", x.day, x.days, x.how, x.holidays, got, e, x.want, x.e)
		}
	}
}

// timeEnd is when a time is over.
func timeEnd(day, days, how int) int {
	if how == api.ByPost {
		return day + 3 + days
	}
	return day + days
}

// deadlineOf returns a deadline, or a day that is later than any one if there is none any more.
func deadlineOf(t *testing.T, day, days, how int, holidays []int) int {
	t.Helper()
	got, e := calendar.Deadline(day, days, how, holidays)
	if e == api.ErrRange && got == 0 {
		return last + 1
	}
	if e != api.OK {
		t.Fatalf("Deadline(%d, %d, %d, %v): %d, %v", day, days, how, holidays, got, e)
	}
	return got
}

// deadlines calls a function with the arguments of deadlines.
func deadlines(do func(day, days, how int, holidays []int)) {
	for _, holidays := range holidayLists() {
		for _, day := range days() {
			for _, time := range times() {
				do(day, time, api.ByHand, holidays)
				do(day, time, api.ByPost, holidays)
			}
		}
	}
}

// P3.1, C7, and P3.7: a deadline is the first working day when the time is over, or there is none among the days.
func TestDeadlines(t *testing.T) {
	deadlines(func(day, time, how int, holidays []int) {
		got, e := calendar.Deadline(day, time, how, holidays)
		end := timeEnd(day, time, how)
		until := got
		if e == api.ErrRange && got == 0 {
			until = last + 1
		} else if e != api.OK || got < end || got > last || isFree(got, holidays) || !must[bool](t)(calendar.Working(got, holidays)) {
			t.Errorf("Deadline(%d, %d, %d, %v): %d, %v", day, time, how, holidays, got, e)
		}
		for free := end; free < until; free++ {
			if !isFree(free, holidays) || must[bool](t)(calendar.Working(free, holidays)) {
				t.Errorf("Deadline(%d, %d, %d, %v): %d, %v, but %d is a working day", day, time, how, holidays, got, e, free)
			}
		}
	})
}

// P3.8: what is served a day later, or gives a day more, has no earlier deadline; what goes by post has that of three days later by hand.
func TestDeadlineOrder(t *testing.T) {
	deadlines(func(day, time, how int, holidays []int) {
		got := deadlineOf(t, day, time, how, holidays)
		if later := deadlineOf(t, min(day+1, last), time, how, holidays); later < got {
			t.Errorf("Deadline(%d, %d, %d, %v): %d, and %d for what is served later", day, time, how, holidays, got, later)
		}
		if more := deadlineOf(t, day, min(time+1, 1000), how, holidays); more < got {
			t.Errorf("Deadline(%d, %d, %d, %v): %d, and %d for a day more", day, time, how, holidays, got, more)
		}
		if byHand := deadlineOf(t, day+3, time, api.ByHand, holidays); how == api.ByPost && byHand != got {
			t.Errorf("Deadline(%d, %d, %d, %v): %d, and %d by hand three days later", day, time, how, holidays, got, byHand)
		}
	})
}

// P3.8: a further holiday makes no deadline earlier.
func TestFurtherHoliday(t *testing.T) {
	deadlines(func(day, time, how int, holidays []int) {
		got := deadlineOf(t, day, time, how, holidays)
		end := timeEnd(day, time, how)
		for _, further := range []int{0, day, end - 1, end, end + 1, got - 1, got, got + 1, last} {
			at, found := slices.BinarySearch(holidays, further)
			if found || further < 0 || further > last || len(holidays) == 100 {
				continue
			}
			more := slices.Insert(slices.Clone(holidays), at, further)
			later := deadlineOf(t, day, time, how, more)
			if later < got || further == got && later == got {
				t.Errorf("Deadline(%d, %d, %d, %v): %d, and %d with the holiday %d", day, time, how, holidays, got, later, further)
			}
		}
	})
}

// P3.1, C7, and P1: what is no day is refused before all else, and other arguments that are out of range before a deadline that is.
func TestDeadlineErrors(t *testing.T) {
	noTimes := []int{-1, -2, -1000, 1001, 1002, last, math.MaxInt, math.MaxInt - 3, math.MinInt, math.MinInt + 1}
	noWays := []int{0, 3, -1, -2, 4, 1 << 32, math.MaxInt, math.MinInt}
	refuse := func(day, time, how int, holidays []int, want api.Errno) {
		if got, e := calendar.Deadline(day, time, how, holidays); got != 0 || e != want {
			t.Errorf("Deadline(%d, %d, %d, %v): %d, %v; want %v", day, time, how, holidays, got, e, want)
		}
	}
	for _, day := range append(noDays(), 0, 2, last-1, last) {
		want := api.ErrArg
		if day < 0 || day > last {
			want = api.ErrRange
			refuse(day, 5, api.ByHand, nil, want)
			refuse(day, 0, api.ByPost, []int{9}, want)
		}
		for _, time := range noTimes {
			refuse(day, time, api.ByHand, nil, want)
			refuse(day, time, api.ByPost, []int{9}, want)
			refuse(day, time, 0, []int{9, 9}, want)
		}
		for _, how := range noWays {
			refuse(day, 5, how, nil, want)
			refuse(day, 1000, how, []int{last}, want)
		}
		for _, holidays := range noHolidays() {
			refuse(day, 0, api.ByHand, holidays, want)
			refuse(day, 1000, api.ByPost, holidays, want)
		}
	}
}

// P1 and the rules: the holidays stay as they are, also behind their end, and the same call returns the same again.
func TestLeavesHolidays(t *testing.T) {
	all := []int{6, 9, 10, 77, 5}
	holidays := all[:3]
	for range 2 {
		if got, e := calendar.Deadline(2, 4, api.ByHand, holidays); got != 11 || e != api.OK {
			t.Errorf("Deadline: %d, %v", got, e)
		}
		if got, e := calendar.Working(9, holidays); got || e != api.OK {
			t.Errorf("Working: %v, %v", got, e)
		}
	}
	if !slices.Equal(all, []int{6, 9, 10, 77, 5}) {
		t.Errorf("holidays are now %v", all)
	}
}
