package calendar

import "cohousing/api"

// Days of the week, and how many there are.
const (
	monday = iota
	tuesday
	wednesday
	thursday
	friday
	saturday
	sunday
	weekDays
)

// firstWeekday is that of day 0.
const firstWeekday = saturday

const (
	firstYear  = 2000
	lastYear   = 2099
	yearMonths = 12
	february   = 1
	// leapEvery is how many years follow one another from a leap year to before the next one.
	leapEvery = 4
	yearDays  = 365
	cycleDays = leapEvery*yearDays + 1
)

// lengths are the days of the months of a year that is no leap year.
var lengths = [yearMonths]int{31, 28, 31, 30, 31, 30, 31, 31, 30, 31, 30, 31}

// isDay reports whether an integer is the number of a day.
func isDay(day int) bool { return 0 <= day && day <= api.MaxDay }

// weekday returns the day of the week of a day.
func weekday(day int) int { return (day + firstWeekday) % weekDays }

// yearStart returns the day on which a year begins that is so many years after the first one.
func yearStart(years int) int {
	// Each cycle begins with its leap year, so a cycle that has begun has had its leap day.
	leaps := (years + leapEvery - 1) / leapEvery
	return years*yearDays + leaps
}

// length returns the number of days of a month.
func length(month int) int {
	days := lengths[month%yearMonths]
	if month%yearMonths == february && month/yearMonths%leapEvery == 0 {
		days++
	}
	return days
}

// start returns the first day of a month.
func start(month int) int {
	years := month / yearMonths
	day := yearStart(years)
	for m := years * yearMonths; m < month; m++ {
		day += length(m)
	}
	return day
}

// locate returns the month of a day, and the day of the month.
func locate(day int) (month, date int) {
	// The first day of a year times 4 is 1461 for each year before it, and at most 3 more; that of the last day of the year before is less.
	years := day * leapEvery / cycleDays
	month, date = years*yearMonths, day-yearStart(years)+1
	for date > length(month) {
		date -= length(month)
		month++
	}
	return month, date
}
