package cal

import (
	"strconv"
	"strings"

	"thresher/api"
)

// short: so many bytes of a name are its short form.
const short = 3

// The names of the days of a week, and of the months of a year.
var (
	weekdays = [...]string{"Sunday", "Monday", "Tuesday", "Wednesday", "Thursday", "Friday", "Saturday"}
	months   = [...]string{"January", "February", "March", "April", "May", "June", "July", "August", "September", "October", "November", "December"}
)

// moment: a time to be written, with its date.
type moment struct {
	api.Date
	t int
}

// text: a format's bytes, with its parts replaced.
func (m moment) text(format string) string {
	var out strings.Builder
	for i := 0; i < len(format); i++ {
		if format[i] == '%' && i+1 < len(format) {
			i++
			out.WriteString(m.part(format[i]))
		} else {
			out.WriteByte(format[i])
		}
	}
	return out.String()
}

// part: what replaces a `%` with this letter behind.
func (m moment) part(letter byte) string {
	switch letter {
	case 'a':
		return weekdays[m.Week][:short]
	case 'A':
		return weekdays[m.Week]
	case 'b', 'h':
		return months[m.Month-1][:short]
	case 'B':
		return months[m.Month-1]
	case 'e':
		return padded(m.Day, 2, " ")
	case 'p':
		if m.Hour < 12 {
			return "AM"
		}
		return "PM"
	case 'D':
		return m.text("%m/%d/%y")
	case 'F':
		return m.text("%Y-%m-%d")
	case 'R':
		return m.text("%H:%M")
	case 'T':
		return m.text("%H:%M:%S")
	case 'n':
		return "\n"
	case 't':
		return "\t"
	case 'z':
		return "+0000"
	case 'Z':
		return "UTC"
	case '%':
		return "%"
	}
	if n, size, ok := m.number(letter); ok {
		return padded(n, size, "0")
	}
	return "%" + string([]byte{letter})
}

// number: the one that a letter stands for, and how many digits it has at least; false, if it stands for none.
func (m moment) number(letter byte) (int, int, bool) {
	switch letter {
	case 'Y':
		return m.Year, 1, true
	case 'C':
		return m.Year / 100, 2, true
	case 'y':
		return m.Year % 100, 2, true
	case 'm':
		return m.Month, 2, true
	case 'd':
		return m.Day, 2, true
	case 'H':
		return m.Hour, 2, true
	case 'I':
		return (m.Hour+11)%12 + 1, 2, true
	case 'M':
		return m.Min, 2, true
	case 'S':
		return m.Sec, 2, true
	case 'j':
		return m.YDay, 3, true
	case 'w':
		return m.Week, 1, true
	case 'u':
		return m.sinceMonday() + 1, 1, true
	case 'U':
		return weeksBegun(m.YDay, m.Week), 2, true
	case 'W':
		return weeksBegun(m.YDay, m.sinceMonday()), 2, true
	case 'V':
		return (m.thursday().YDay-1)/7 + 1, 2, true
	case 'G':
		return m.thursday().Year, 1, true
	case 'g':
		return m.thursday().Year % 100, 2, true
	case 's':
		return m.t, 1, true
	}
	return 0, 0, false
}

// sinceMonday: how many days the last Monday is ago.
func (m moment) sinceMonday() int {
	return (m.Week + 6) % 7
}

// thursday: the date of the Thursday in the week that goes from Monday to Sunday. It always has one, since the first day of all is a Monday and the last one a Friday.
func (m moment) thursday() api.Date {
	d, _ := Of(m.t + (3-m.sinceMonday())*day)
	return d
}

// weeksBegun: how many weeks have begun in a year up to a day of it, the last one so many days ago.
func weeksBegun(yday, since int) int {
	return (yday - since + 6) / 7
}

// padded: a number's digits, with as many of a filler ahead as there is room for.
func padded(n, size int, filler string) string {
	digits := strconv.Itoa(n)
	return strings.Repeat(filler, max(0, size-len(digits))) + digits
}
