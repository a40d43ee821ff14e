package content

// timeDigits: four of the year, two each of month, day, hour, minute and second.
const timeDigits = 14

// monthDays: the last day of each month, in a year whose February has 28.
var monthDays = [...]int{31, 28, 31, 30, 31, 30, 31, 31, 30, 31, 30, 31}

func fitsTime(text string) bool {
	if len(text) != timeDigits+1 || text[timeDigits] != 'Z' {
		return false
	}
	for i := range timeDigits {
		if !isDigit(text[i]) {
			return false
		}
	}
	year, month, day := decimal(text[:4]), decimal(text[4:6]), decimal(text[6:8])
	hour, minute, second := decimal(text[8:10]), decimal(text[10:12]), decimal(text[12:14])
	return isDate(year, month, day) && hour <= 23 && minute <= 59 && second <= 59
}

// decimal is the number that these digits tell.
func decimal(digits string) int {
	n := 0
	for i := range len(digits) {
		n = n*10 + int(digits[i]-'0')
	}
	return n
}

func isDate(year, month, day int) bool {
	return 1 <= month && month <= 12 && 1 <= day && day <= lastDay(year, month)
}

func lastDay(year, month int) int {
	if month == 2 && isLeap(year) {
		return 29
	}
	return monthDays[month-1]
}

func isLeap(year int) bool {
	return year%4 == 0 && year%100 != 0 || year%400 == 0
}
