package calendar

import (
	"slices"

	"cohousing/api"
)

const (
	maxHolidays = 100
	// maxTime is how many days a time can have.
	maxTime = 1000
	// postDays is how much later something counts as served if it goes by post.
	postDays = 3
)

// areHolidays reports whether these are at most 100 days, each one greater than the one before.
func areHolidays(l []int) bool {
	if len(l) > maxHolidays {
		return false
	}
	before := -1
	for _, day := range l {
		if !isDay(day) || day <= before {
			return false
		}
		before = day
	}
	return true
}

// isWorking reports whether a day is neither on a weekend nor a holiday.
func isWorking(day int, holidays []int) bool {
	_, found := slices.BinarySearch(holidays, day)
	return weekday(day) < saturday && !found
}

// workingFrom returns the first working day from a day on.
func workingFrom(day int, holidays []int) (int, api.Errno) {
	for ; isDay(day); day++ {
		if isWorking(day, holidays) {
			return day, api.OK
		}
	}
	return 0, api.ErrRange
}
