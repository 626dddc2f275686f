package calendar_test

import (
	"math"
	"testing"
	"time"

	"cohousing/api"
	"cohousing/calendar"
)

const last = api.MaxDay

// day0 is day 0 in package time.
var day0 = time.Date(2000, time.January, 1, 0, 0, 0, 0, time.UTC)

// on is a day in package time.
func on(day int) time.Time { return day0.AddDate(0, 0, day) }

// weekdayOf is that of a day in package time, from 0 for Monday on.
func weekdayOf(day int) int { return (int(on(day).Weekday()) + 6) % 7 }

// noDays are integers that are no days.
func noDays() []int {
	return []int{
		-1, -2, -7, -365, -last, last + 1, last + 2, last + 365, 2 * last, 1 << 31, -1 << 31, 1 << 32, -1 << 32, 1 << 62, -1 << 62,
		math.MaxInt, math.MaxInt - 1, math.MinInt, math.MinInt + 1,
	}
}

// must returns the result of a call that has no error.
func must[T any](t *testing.T) func(r T, e api.Errno) T {
	return func(r T, e api.Errno) T {
		t.Helper()
		if e != api.OK {
			t.Fatalf("%v", e)
		}
		return r
	}
}

// date is what Date returns.
type date struct{ year, month, date int }

// dateOf returns the date of a day.
func dateOf(t *testing.T, day int) date {
	t.Helper()
	y, m, d, e := calendar.Date(day)
	if e != api.OK {
		t.Fatalf("Date(%d): %v", day, e)
	}
	return date{y, m, d}
}

// P3.1, C1 to C4: the examples, 29 February, and the first and the last day of months and years.
func TestExamples(t *testing.T) {
	for _, x := range []struct {
		day            int
		want           date
		month, weekday int
	}{
		{0, date{2000, 1, 1}, 0, 5},
		{1, date{2000, 1, 2}, 0, 6},
		{2, date{2000, 1, 3}, 0, 0},
		{30, date{2000, 1, 31}, 0, 0},
		{31, date{2000, 2, 1}, 1, 1},
		{58, date{2000, 2, 28}, 1, 0},
		{59, date{2000, 2, 29}, 1, 1},
		{60, date{2000, 3, 1}, 2, 2},
		{365, date{2000, 12, 31}, 11, 6},
		{366, date{2001, 1, 1}, 12, 0},
		{424, date{2001, 2, 28}, 13, 2},
		{425, date{2001, 3, 1}, 14, 3},
		{730, date{2001, 12, 31}, 23, 0},
		{731, date{2002, 1, 1}, 24, 1},
		{1460, date{2003, 12, 31}, 47, 2},
		{1461, date{2004, 1, 1}, 48, 3},
		{1520, date{2004, 2, 29}, 49, 6},
		{35123, date{2096, 2, 29}, 1153, 2},
		{36523, date{2099, 12, 30}, 1199, 2},
		{36524, date{2099, 12, 31}, 1199, 3},
	} {
		if got := dateOf(t, x.day); got != x.want {
			t.Errorf("Date(%d): %v", x.day, got)
		}
		if day, e := calendar.Day(x.want.year, x.want.month, x.want.date); day != x.day || e != api.OK {
			t.Errorf("Day(%v): %d, %v; want %d", x.want, day, e, x.day)
		}
		if n, e := calendar.Month(x.day); n != x.month || e != api.OK {
			t.Errorf("Month(%d): %d, %v", x.day, n, e)
		}
		if n, e := calendar.Weekday(x.day); n != x.weekday || e != api.OK {
			t.Errorf("Weekday(%d): %d, %v", x.day, n, e)
		}
	}
}

// P3.1, C1 to C4: every day is what package time has for it.
func TestEveryDay(t *testing.T) {
	for day := 0; day <= last; day++ {
		y, m, d := on(day).Date()
		if got := dateOf(t, day); got != (date{y, int(m), d}) {
			t.Errorf("Date(%d): %v; want %d-%d-%d", day, got, y, m, d)
		}
		if n, e := calendar.Day(y, int(m), d); n != day || e != api.OK {
			t.Errorf("Day(%d, %d, %d): %d, %v; want %d", y, m, d, n, e, day)
		}
		if n, e := calendar.Month(day); n != (y-2000)*12+int(m)-1 || e != api.OK {
			t.Errorf("Month(%d): %d, %v", day, n, e)
		}
		if n, e := calendar.Weekday(day); n != weekdayOf(day) || e != api.OK {
			t.Errorf("Weekday(%d): %d, %v", day, n, e)
		}
	}
}

// P3.1, C2: dates that do not exist are refused, with each part at its own edges.
func TestNoDate(t *testing.T) {
	for _, x := range []date{
		{2001, 2, 29}, {2002, 2, 29}, {2003, 2, 29}, {2099, 2, 29}, {2000, 2, 30}, {2004, 2, 30}, {2096, 2, 30}, {2000, 2, 31},
		{2000, 1, 32}, {2000, 3, 32}, {2000, 4, 31}, {2000, 5, 32}, {2000, 6, 31}, {2000, 7, 32}, {2000, 8, 32}, {2000, 9, 31}, {2000, 10, 32}, {2000, 11, 31}, {2000, 12, 32},
		{2000, 1, 0}, {2000, 2, 0}, {2050, 1, -1}, {2000, 0, 1}, {2000, 13, 1}, {2099, 13, 1}, {2000, -1, 1}, {2001, 0, 31},
		{1999, 12, 31}, {1999, 1, 1}, {2100, 1, 1}, {2100, 12, 31}, {1996, 2, 29}, {2104, 2, 29}, {0, 1, 1}, {-2000, 1, 1}, {0, 0, 0}, {99, 12, 31},
	} {
		if day, e := calendar.Day(x.year, x.month, x.date); day != 0 || e != api.ErrRange {
			t.Errorf("Day(%v): %d, %v", x, day, e)
		}
	}
}

// P3.1, C2: of all years, months and days of the month around the edges, those are dates that package time leaves as they are.
func TestEveryDate(t *testing.T) {
	for y := 1995; y <= 2105; y++ {
		for m := -1; m <= 14; m++ {
			for d := -1; d <= 33; d++ {
				then := time.Date(y, time.Month(m), d, 0, 0, 0, 0, time.UTC)
				want, f := 0, api.ErrRange
				if then.Year() == y && int(then.Month()) == m && then.Day() == d && 2000 <= y && y <= 2099 {
					want, f = int(then.Sub(day0).Hours()/24), api.OK
				}
				if day, e := calendar.Day(y, m, d); day != want || e != f {
					t.Errorf("Day(%d, %d, %d): %d, %v; want %d, %v", y, m, d, day, e, want, f)
				}
			}
		}
	}
}

// P3.2: Day undoes Date, and Date undoes Day.
func TestRoundTrip(t *testing.T) {
	seen := 0
	for day := 0; day <= last; day++ {
		x := dateOf(t, day)
		if back, e := calendar.Day(x.year, x.month, x.date); back != day || e != api.OK {
			t.Errorf("Day(%v): %d, %v; want %d", x, back, e, day)
		}
	}
	for y := 2000; y <= 2099; y++ {
		for m := 1; m <= 12; m++ {
			for d := 1; d <= 31; d++ {
				day, e := calendar.Day(y, m, d)
				if e != api.OK {
					continue
				}
				seen++
				if got := dateOf(t, day); got != (date{y, m, d}) {
					t.Errorf("Date(%d): %v; want %d-%d-%d", day, got, y, m, d)
				}
			}
		}
	}
	if seen != last+1 {
		t.Errorf("%d dates", seen)
	}
}

// P3.3: the next day is the next one of its month, or the first one of the next month where there is no next one of its own.
func TestSuccession(t *testing.T) {
	for day := range last {
		x := dateOf(t, day)
		want := date{x.year, x.month, x.date + 1}
		if _, e := calendar.Day(want.year, want.month, want.date); e != api.OK {
			want = date{x.year, x.month + 1, 1}
		}
		if want.month == 13 {
			want = date{x.year + 1, 1, 1}
		}
		if got := dateOf(t, day+1); got != want {
			t.Errorf("Date(%d): %v; want %v", day+1, got, want)
		}
	}
}

// P3.1, C5: the first months, those of a leap year and of another one, and the last one.
func TestDays(t *testing.T) {
	for _, x := range []struct {
		month int
		want  api.Span
	}{
		{0, api.Span{From: 0, Until: 31}}, {1, api.Span{From: 31, Until: 60}}, {2, api.Span{From: 60, Until: 91}}, {3, api.Span{From: 91, Until: 121}}, {11, api.Span{From: 335, Until: 366}},
		{12, api.Span{From: 366, Until: 397}}, {13, api.Span{From: 397, Until: 425}}, {49, api.Span{From: 1492, Until: 1521}}, {1198, api.Span{From: 36464, Until: 36494}}, {1199, api.Span{From: 36494, Until: 36525}},
	} {
		if got, e := calendar.Days(x.month); got != x.want || e != api.OK {
			t.Errorf("Days(%d): %v, %v; want %v", x.month, got, e, x.want)
		}
	}
	for month := 0; month <= api.MaxMonth; month++ {
		from := int(time.Date(2000, time.Month(month+1), 1, 0, 0, 0, 0, time.UTC).Sub(day0).Hours() / 24)
		until := int(time.Date(2000, time.Month(month+2), 1, 0, 0, 0, 0, time.UTC).Sub(day0).Hours() / 24)
		if got, e := calendar.Days(month); got != (api.Span{From: from, Until: until}) || e != api.OK {
			t.Errorf("Days(%d): %v, %v; want %d to before %d", month, got, e, from, until)
		}
	}
}

// P3.4: months hold the days whose month they are, follow one another without a gap, and make up years of 365 or 366 days.
func TestMonths(t *testing.T) {
	end, year := 0, 0
	for month := 0; month <= api.MaxMonth; month++ {
		days := must[api.Span](t)(calendar.Days(month))
		if days.From != end || days.Until-days.From < 28 || days.Until-days.From > 31 {
			t.Errorf("Days(%d): %v behind %d", month, days, end)
		}
		for day := days.From; day < days.Until; day++ {
			if n, e := calendar.Month(day); n != month || e != api.OK {
				t.Errorf("Month(%d): %d, %v; want %d", day, n, e, month)
			}
		}
		end = days.Until
		if month%12 == 11 {
			if end-year != 365 && end-year != 366 {
				t.Errorf("the year that ends with month %d has %d days", month, end-year)
			}
			year = end
		}
	}
	if end != last+1 {
		t.Errorf("the months end at %d", end)
	}
}

// P3.5: each day of the week is followed by the next one, and a date is on the same one 28 years later.
func TestWeeks(t *testing.T) {
	for day := range last {
		a, b := must[int](t)(calendar.Weekday(day)), must[int](t)(calendar.Weekday(day+1))
		if a < 0 || a > 6 || b != (a+1)%7 {
			t.Errorf("Weekday(%d): %d; the next one: %d", day, a, b)
		}
		x := dateOf(t, day)
		if x.year+28 > 2099 {
			continue
		}
		later := must[int](t)(calendar.Day(x.year+28, x.month, x.date))
		if c := must[int](t)(calendar.Weekday(later)); c != a {
			t.Errorf("Weekday(%d): %d; Weekday(%d): %d", day, a, later, c)
		}
	}
}

// P3.1 and P1: integers that are no days, and no months, are refused, with zero values.
func TestNoDay(t *testing.T) {
	for _, bad := range noDays() {
		if y, m, d, e := calendar.Date(bad); y != 0 || m != 0 || d != 0 || e != api.ErrRange {
			t.Errorf("Date(%d): %d, %d, %d, %v", bad, y, m, d, e)
		}
		if n, e := calendar.Weekday(bad); n != 0 || e != api.ErrRange {
			t.Errorf("Weekday(%d): %d, %v", bad, n, e)
		}
		if n, e := calendar.Month(bad); n != 0 || e != api.ErrRange {
			t.Errorf("Month(%d): %d, %v", bad, n, e)
		}
	}
	for _, bad := range append(noDays(), api.MaxMonth+1, api.MaxMonth+12, -12) {
		if days, e := calendar.Days(bad); days != (api.Span{}) || e != api.ErrRange {
			t.Errorf("Days(%d): %v, %v", bad, days, e)
		}
	}
}

// P3.1, C2, and P1: a part of a date of any size is refused, whatever the other ones are.
func TestNoPartOfDate(t *testing.T) {
	parts := append(noDays(), 0, 1, 2, 12, 13, 28, 31, 32, 1999, 2000, 2099, 2100)
	for _, y := range parts {
		for _, m := range parts {
			for _, d := range parts {
				day, e := calendar.Day(y, m, d)
				again, f := calendar.Day(y, m, d)
				if day != again || e != f || e != api.OK && (day != 0 || e != api.ErrRange) {
					t.Errorf("Day(%d, %d, %d): %d, %v and then %d, %v", y, m, d, day, e, again, f)
				}
				is := (y == 2000 || y == 2099) && m >= 1 && m <= 12 && (d == 1 || d == 2 || d == 12 || d == 13 || d == 28 || d == 31 && m != 2)
				if is != (e == api.OK) {
					t.Errorf("Day(%d, %d, %d): %d, %v", y, m, d, day, e)
				}
			}
		}
	}
}
