package cal_test

import (
	"math"
	"regexp"
	"strconv"
	"strings"
	"testing"
	"time"
	"unsafe"

	"thresher/api"
	"thresher/cal"
	"thresher/probe"
)

const daySecs = 86400

func checkOf(t *testing.T, x int, want api.Date) {
	t.Helper()
	if d, errno := cal.Of(x); d != want || errno != api.OK {
		t.Fatalf("Of(%d): %v and %d instead of %v", x, d, errno, want)
	}
}

func checkAt(t *testing.T, d api.Date, want int, errno api.Errno) {
	t.Helper()
	if x, e := cal.At(d); x != want || e != errno {
		t.Fatalf("At(%v): %d and %d instead of %d and %d", d, x, e, want, errno)
	}
}

func checkText(t *testing.T, format string, x int, want string, errno api.Errno) {
	t.Helper()
	if s, e := cal.Text(format, x); s != want || e != errno {
		t.Fatalf("Text(%.80q, %d): %.80q and %d instead of %.80q and %d", format, x, s, e, want, errno)
	}
}

func checkParse(t *testing.T, s string, want int) {
	t.Helper()
	if x := cal.Parse(s); x != want {
		t.Fatalf("Parse(%.80q): %d instead of %d", s, x, want)
	}
}

// six: a date of a year, a month, a day, an hour, a minute and a second.
func six(n ...int) api.Date {
	return api.Date{Year: n[0], Month: n[1], Day: n[2], Hour: n[3], Min: n[4], Sec: n[5]}
}

// told: the date of a time, by Go's own calendar.
func told(x int) api.Date {
	u := time.Unix(int64(x), 0).UTC()
	d := six(u.Year(), int(u.Month()), u.Day(), u.Hour(), u.Minute(), u.Second())
	d.Week, d.YDay = int(u.Weekday()), u.YearDay()
	return d
}

// counted: the time of a date, by Go's own calendar; ErrRange, if it is none, or a number is too far from 0.
func counted(d api.Date) (int, api.Errno) {
	for _, n := range []int{d.Year, d.Month, d.Day, d.Hour, d.Min, d.Sec} {
		if n < -1000000 || n > 1000000 {
			return 0, api.ErrRange
		}
	}
	x := int(time.Date(d.Year, time.Month(d.Month), d.Day, d.Hour, d.Min, d.Sec, 0, time.UTC).Unix())
	if x < -62135596800 || x > 253402300799 {
		return 0, api.ErrRange
	}
	return x, api.OK
}

// begun: how many days of the week, counted from 0 for Sunday, a year has had up to a time of it.
func begun(u time.Time, weekday time.Weekday) int {
	n := 0
	for d := u; d.Year() == u.Year(); d = d.AddDate(0, 0, -1) {
		if d.Weekday() == weekday {
			n++
		}
	}
	return n
}

// two: a number's digits, two at least.
func two(n int) string {
	if n < 10 {
		return "0" + strconv.Itoa(n)
	}
	return strconv.Itoa(n)
}

// letters: what each letter is replaced by at a time, by Go's own calendar.
func letters(x int) map[byte]string {
	u := time.Unix(int64(x), 0).UTC()
	year, week := u.ISOWeek()
	whole := strconv.Itoa(u.Year())
	return map[byte]string{
		'a': u.Format("Mon"), 'A': u.Format("Monday"), 'b': u.Format("Jan"), 'h': u.Format("Jan"), 'B': u.Format("January"),
		'C': two(u.Year() / 100), 'y': u.Format("06"), 'Y': whole, 'm': u.Format("01"), 'd': u.Format("02"), 'e': u.Format("_2"),
		'H': u.Format("15"), 'M': u.Format("04"), 'S': u.Format("05"), 'I': u.Format("03"), 'p': u.Format("PM"), 'j': u.Format("002"),
		'u': strconv.Itoa((int(u.Weekday())+6)%7 + 1), 'w': strconv.Itoa(int(u.Weekday())), 'U': two(begun(u, time.Sunday)), 'W': two(begun(u, time.Monday)),
		'V': two(week), 'G': strconv.Itoa(year), 'g': two(year % 100), 's': strconv.Itoa(x), 'n': "\n", 't': "\t", 'z': "+0000", 'Z': "UTC", '%': "%",
		'D': u.Format("01/02/06"), 'F': whole + u.Format("-01-02"), 'R': u.Format("15:04"), 'T': u.Format("15:04:05"),
	}
}

var parts = regexp.MustCompile(`(?s)%.`)

// written tells once more what Text answers, of a format without bytes above 7F.
func written(format string, x int) string {
	by := letters(x)
	return parts.ReplaceAllStringFunc(format, func(part string) string {
		if text, ok := by[part[1]]; ok {
			return text
		}
		return part
	})
}

// dice makes times and dates by chance.
type dice struct{ probe.Dice }

func newDice(seed uint64) *dice {
	return &dice{probe.Dice(seed)}
}

// time: any one, now and then near the turn of a year.
func (d *dice) time() int {
	if d.Below(3) == 0 {
		x, _ := cal.At(six(2+d.Below(9997), 1, d.Below(20)-10, d.Below(24), 0, d.Below(daySecs)))
		return x
	}
	return api.MinTime + int(d.Next()%(api.MaxTime-api.MinTime+1))
}

// number: one that is as far from 0 as is asked for.
func (d *dice) number(farthest int) int {
	return int(d.Next()%uint64(2*farthest+1)) - farthest
}

// edges: times at which something turns.
func edges() []int {
	var list []int
	for _, year := range []int{2, 4, 5, 99, 100, 101, 400, 401, 999, 1000, 1582, 1600, 1700, 1900, 1970, 2000, 2004, 2023, 2024, 2100, 2400, 9999} {
		for _, month := range []int{1, 2, 3, 4, 12, 13} {
			x := int(time.Date(year, time.Month(month), 1, 0, 0, 0, 0, time.UTC).Unix())
			for _, near := range []int{-daySecs, -1, 0, 1, 43199, 43200, 3599, 3600} {
				list = append(list, min(x+near, api.MaxTime))
			}
		}
	}
	return append(list, api.MinTime, api.MinTime+1, api.MinTime+daySecs-1, api.MinTime+daySecs, -1, 0, 1, 1<<31-1, 1<<31, -1<<31, api.MaxTime-1, api.MaxTime)
}

// wrong: numbers that are no times.
func wrong() []int {
	return []int{math.MinInt, math.MinInt + 1, -1 << 40, api.MinTime - daySecs, api.MinTime - 1, api.MaxTime + 1, api.MaxTime + daySecs, 1 << 40, math.MaxInt - 1, math.MaxInt}
}

// P13.1: the examples of the chapter.
func TestExamples(t *testing.T) {
	leap := six(2000, 2, 29, 0, 0, 0)
	leap.Week, leap.YDay = 2, 60
	checkOf(t, 951782400, leap)
	checkText(t, "%F %T %a %j %V", 951782400, "2000-02-29 00:00:00 Tue 060 09", api.OK)
	checkAt(t, six(1999, 14, 30, -24, 0, 0), 951782400, api.OK)
	checkParse(t, "2000 2 29 0 0 0", 951782400)
	first, _ := cal.At(six(2000, 1, 1, 0, 0, 0))
	checkText(t, "%G-W%V-%u", first, "1999-W52-6", api.OK)
	checkParse(t, "1 1 1 0 0 0", -62135596800)
	checkParse(t, "9999 12 31 23 59 59", 253402300799)
}

// lengths: how many days the months of a year have.
func lengths(year int) []int {
	feb := 28
	if year%400 == 0 || year%100 != 0 && year%4 == 0 {
		feb = 29
	}
	return []int{31, feb, 31, 30, 31, 30, 31, 31, 30, 31, 30, 31}
}

// P13.1, P13.2, P13.3: all days there are, one behind the other.
func TestEveryDay(t *testing.T) {
	d := newDice(13)
	x := api.MinTime
	week := 1
	for year := 1; year <= 9999; year++ {
		yday := 0
		for month, days := range lengths(year) {
			for day := 1; day <= days; day++ {
				yday++
				want := six(year, month+1, day, d.Below(24), d.Below(60), d.Below(60))
				want.Week, want.YDay = week, yday
				now := x + want.Hour*3600 + want.Min*60 + want.Sec
				checkOf(t, now, want)
				checkAt(t, want, now, api.OK)
				x, week = x+daySecs, (week+1)%7
			}
		}
	}
	if x != api.MaxTime+1 {
		t.Fatalf("the days end at %d", x)
	}
}

// P13.1, R4: of what is no time there is no date and no text.
func TestWrongTimes(t *testing.T) {
	for _, x := range wrong() {
		if d, errno := cal.Of(x); d != (api.Date{}) || errno != api.ErrRange {
			t.Errorf("Of(%d): %v and %d", x, d, errno)
		}
		for _, format := range []string{"", "x", "%Y", "%", "%q", strings.Repeat("x", 5000)} {
			checkText(t, format, x, "", api.ErrRange)
		}
	}
}

// P13.1, P13.2: each second of some days, and times by chance, there and back.
func TestTimes(t *testing.T) {
	check := func(x int) {
		want := told(x)
		checkOf(t, x, want)
		checkAt(t, want, x, api.OK)
		text, _ := cal.Text("%Y %m %d %H %M %S", x)
		checkParse(t, text, x)
		text, _ = cal.Text("%t%Y%n%m %e %T", x)
		checkParse(t, strings.ReplaceAll(text, ":", " "), x)
	}
	for _, first := range []int{api.MinTime, -daySecs, 0, 951782400, api.MaxTime - daySecs + 1} {
		for x := first; x < first+daySecs; x++ {
			check(x)
		}
	}
	for _, x := range edges() {
		check(x)
	}
	d := newDice(131)
	for range 200000 {
		check(d.time())
	}
}

// P13.3: a day later is the next day.
func TestNextDay(t *testing.T) {
	d := newDice(133)
	for range 100000 {
		x := min(d.time(), api.MaxTime-daySecs)
		now, _ := cal.Of(x)
		next := now
		next.Day, next.Week, next.YDay = now.Day+1, (now.Week+1)%7, now.YDay+1
		checkAt(t, next, x+daySecs, api.OK)
		days := lengths(now.Year)
		if next.Day > days[now.Month-1] {
			next.Day, next.Month = 1, now.Month+1
		}
		if next.Month == 13 {
			next.Year, next.Month, next.YDay = now.Year+1, 1, 1
		}
		checkOf(t, x+daySecs, next)
	}
}

// P13.1: numbers beyond their bounds are counted on, or back.
func TestBeyond(t *testing.T) {
	for _, row := range []struct {
		date api.Date
		same api.Date
	}{
		{six(1999, 13, 1, 0, 0, 0), six(2000, 1, 1, 0, 0, 0)}, {six(2000, 0, 31, 0, 0, 0), six(1999, 12, 31, 0, 0, 0)}, {six(2000, -1, 1, 0, 0, 0), six(1999, 11, 1, 0, 0, 0)}, {six(2000, -11, 1, 0, 0, 0), six(1999, 1, 1, 0, 0, 0)}, {six(2000, -12, 1, 0, 0, 0), six(1998, 12, 1, 0, 0, 0)}, {six(2000, 24, 1, 0, 0, 0), six(2001, 12, 1, 0, 0, 0)}, {six(2000, 25, 1, 0, 0, 0), six(2002, 1, 1, 0, 0, 0)},
		{six(2000, 3, 0, 0, 0, 0), six(2000, 2, 29, 0, 0, 0)}, {six(1900, 3, 0, 0, 0, 0), six(1900, 2, 28, 0, 0, 0)}, {six(2001, 2, 29, 0, 0, 0), six(2001, 3, 1, 0, 0, 0)}, {six(2000, 1, -365, 0, 0, 0), six(1998, 12, 31, 0, 0, 0)}, {six(2000, 14, 31, 0, 0, 0), six(2001, 3, 3, 0, 0, 0)},
		{six(2000, 1, 1, 24, 0, 0), six(2000, 1, 2, 0, 0, 0)}, {six(2000, 1, 1, -1, 0, 0), six(1999, 12, 31, 23, 0, 0)}, {six(2000, 1, 1, 0, 60, 0), six(2000, 1, 1, 1, 0, 0)}, {six(2000, 1, 1, 0, -1, 0), six(1999, 12, 31, 23, 59, 0)}, {six(2000, 1, 1, 0, 0, 60), six(2000, 1, 1, 0, 1, 0)}, {six(2000, 1, 1, 0, 0, -1), six(1999, 12, 31, 23, 59, 59)},
		{six(2000, 1, 0, 24, 0, 0), six(2000, 1, 1, 0, 0, 0)}, {six(0, 13, 1, 0, 0, 0), six(1, 1, 1, 0, 0, 0)}, {six(0, 12, 32, 0, 0, 0), six(1, 1, 1, 0, 0, 0)}, {six(0, 1, 367, 0, 0, 0), six(1, 1, 1, 0, 0, 0)}, {six(-400, 1, 146098+366, 0, 0, 0), six(1, 1, 1, 0, 0, 0)}, {six(-1, 3, 1+306+366, 0, 0, 0), six(1, 1, 1, 0, 0, 0)}, {six(10000, 1, 0, 0, 0, 0), six(9999, 12, 31, 0, 0, 0)}, {six(10000, 0, 31, 23, 59, 59), six(9999, 12, 31, 23, 59, 59)},
		{six(-80000, 12*82000, 1, 0, 0, 0), six(1999, 12, 1, 0, 0, 0)}, {six(80000, -12*78000, 1, 0, 0, 0), six(1999, 12, 1, 0, 0, 0)}, {six(-738, 1, 1000000, 0, 0, 0), six(1999, 11, 28, 0, 0, 0)},
	} {
		x, errno := counted(row.same)
		if errno != api.OK {
			t.Fatalf("%v is no date", row.same)
		}
		checkAt(t, row.same, x, api.OK)
		checkAt(t, row.date, x, api.OK)
	}
}

// P13.1: each number at its bounds, and beyond; Week and YDay whatever they are.
func TestFarthest(t *testing.T) {
	at := func(i, n int) api.Date {
		list := []int{2000, 1, 1, 0, 0, 0}
		list[i] = n
		return six(list...)
	}
	for i := range 6 {
		for _, n := range []int{math.MinInt, math.MinInt + 1, -1 << 60, -1 << 32, -1000002, -1000001, 1000001, 1000002, 1 << 32, 1 << 60, math.MaxInt} {
			checkAt(t, at(i, n), 0, api.ErrRange)
		}
		for _, n := range []int{-1000000, -999999, 999999, 1000000} {
			x, errno := counted(at(i, n))
			checkAt(t, at(i, n), x, errno)
			if inside := i > 2 || i == 2 && n > 0; inside != (errno == api.OK) {
				t.Errorf("%v: %d", at(i, n), errno)
			}
		}
	}
	for _, n := range []int{math.MinInt, -1000001, -1, 0, 7, 367, 1000001, math.MaxInt} {
		d := at(0, 2000)
		d.Week, d.YDay = n, n
		checkAt(t, d, 946684800, api.OK)
	}
	// The numbers are held against their bounds, not what they come to.
	checkAt(t, six(2000, 1, -1000001, 24, 0, 0), 0, api.ErrRange)
	checkAt(t, six(-1000000, 1000000, 1000000, 1000000, 1000000, 1000000), 0, api.ErrRange)
	checkAt(t, six(1000000, -1000000, -1000000, -1000000, -1000000, -1000000), 0, api.ErrRange)
	for _, far := range []api.Date{six(-82333, 1000000, 1, 0, 0, 0), six(84333, -1000000, 1, 0, 0, 0), six(-82333, 1000000, -1000000, 1000000, 1000000, 1000000), six(84333, -1000000, 1000000, -1000000, -1000000, -1000000)} {
		x, errno := counted(far)
		checkAt(t, far, x, errno)
	}
}

// P13.1, P13.2: dates by chance, most of them beyond their bounds.
func TestDates(t *testing.T) {
	d := newDice(132)
	good := 0
	check := func(date api.Date) {
		x, errno := counted(date)
		checkAt(t, date, x, errno)
		if errno == api.OK {
			good++
			checkOf(t, x, told(x))
		}
	}
	for range 200000 {
		check(six(d.Below(10200)-100, d.number(30), d.number(400), d.number(50), d.number(200), d.number(4000)))
		check(six(d.number(14000), d.number(60000), d.number(1000000), d.number(1000000), d.number(1000000), d.number(1000000)))
		months := d.number(1000000)
		check(six(d.Below(10000)-months/12, months, d.number(1000000), d.number(1000001), d.number(1000001), d.number(1000001)))
	}
	for _, x := range []int{api.MinTime, api.MaxTime} {
		for range 2000 {
			date := told(x)
			date.Sec += d.number(2)
			for range 3 {
				shift := d.number(10000)
				date.Hour, date.Min = date.Hour+shift, date.Min-60*shift
				date.Day, date.Hour = date.Day+shift, date.Hour-24*shift
				date.Year, date.Month = date.Year+shift, date.Month-12*shift
			}
			check(date)
		}
	}
	if good < 200000 || good > 500000 {
		t.Errorf("%d are times", good)
	}
}

// P13.1: each letter, and each byte that is none.
func TestLetters(t *testing.T) {
	d := newDice(134)
	times := edges()
	for range 1000 {
		times = append(times, d.time())
	}
	for _, x := range times {
		by := letters(x)
		for b := range 0x100 {
			part := string([]byte{'%', byte(b)})
			want, ok := by[byte(b)]
			if !ok {
				want = part
			}
			checkText(t, part, x, want, api.OK)
			checkText(t, "<"+part+">", x, "<"+want+">", api.OK)
			checkText(t, part[1:], x, part[1:], api.OK)
		}
	}
}

// P13.1: what each part writes, told by hand.
func TestParts(t *testing.T) {
	at := func(n ...int) int {
		x, errno := counted(six(n...))
		if errno != api.OK {
			t.Fatalf("%v is no date", n)
		}
		return x
	}
	first, last, night, noon := api.MinTime, api.MaxTime, at(2024, 2, 5, 0, 7, 0), at(2024, 12, 30, 12, 0, 59)
	for _, row := range []struct {
		format string
		x      int
		want   string
	}{
		{"%F %C %y %Y|%G-%V %g|%e|%j %s", first, "1-01-01 00 01 1|1-01 01| 1|001 -62135596800"}, {"%a %A %u %w %U %W", first, "Mon Monday 1 1 00 01"}, {"%I %p %H", first, "12 AM 00"},
		{"%F %T %C %y|%G-%V %g|%e|%j %s", last, "9999-12-31 23:59:59 99 99|9999-52 99|31|365 253402300799"}, {"%a %A %u %w %U %W", last, "Fri Friday 5 5 52 52"}, {"%I %p %H", last, "11 PM 23"},
		{"%I:%M %p %R", night, "12:07 AM 00:07"}, {"%I:%M %p %T", noon, "12:00 PM 12:00:59"}, {"%I%p", night - 60, "12AM"}, {"%I%p", noon - 60, "11AM"}, {"%I%p", noon + 3600, "01PM"}, {"%I%p", night + 3600, "01AM"},
		{"%D %e %d %m %b %h %B", night, "02/05/24  5 05 02 Feb Feb February"}, {"%G-W%V-%u %g", noon, "2025-W01-1 25"},
		{"%j", noon, "365"}, {"%j", noon + daySecs, "366"}, {"%j", night, "036"},
		{"%U %W %u %w", at(2023, 1, 1, 0, 0, 0), "01 00 7 0"}, {"%U %W", at(2023, 1, 2, 0, 0, 0), "01 01"}, {"%U %W", at(2023, 1, 8, 23, 59, 59), "02 01"}, {"%U %W", at(2018, 12, 31, 0, 0, 0), "52 53"}, {"%U %W", at(2000, 12, 31, 0, 0, 0), "53 52"},
		{"%G-W%V", at(2005, 1, 1, 0, 0, 0), "2004-W53"}, {"%G-W%V", at(2005, 1, 3, 0, 0, 0), "2005-W01"}, {"%G-W%V", at(2007, 12, 30, 0, 0, 0), "2007-W52"}, {"%G-W%V %g", at(1900, 12, 31, 0, 0, 0), "1901-W01 01"}, {"%G-W%V %g", at(2000, 1, 2, 0, 0, 0), "1999-W52 99"}, {"%G %g %C%y", at(1, 12, 31, 0, 0, 0), "2 02 0001"}, {"%G %Y", at(1000, 1, 1, 0, 0, 0), "1000 1000"},
		{"%Y %C %y", at(123, 4, 5, 0, 0, 0), "123 01 23"}, {"%F", at(45, 6, 7, 0, 0, 0), "45-06-07"}, {"%s", 0, "0"}, {"%s", -1, "-1"},
		{"", 0, ""}, {"%", 0, "%"}, {"%%", 0, "%"}, {"%%%", 0, "%%"}, {"%%%%", 0, "%%"}, {"%%Y", 0, "%Y"}, {"%%%Y", 0, "%1970"}, {"x%", 0, "x%"}, {"%Y%", 0, "1970%"}, {"% Y", 0, "% Y"}, {"%EY%Od", 0, "%EY%Od"}, {"%-d%_d%02d%10Y", 0, "%-d%_d%02d%10Y"}, {"%c%x%X%r%k%l%P%N%+%G", 0, "%c%x%X%r%k%l%P%N%+1970"}, {"%\x00%\xff\xff%\xc3\xa9%\n", 0, "%\x00%\xff\xff%\xc3\xa9%\n"}, {"d\xc3\xa9 %d\x00\xff", 0, "d\xc3\xa9 01\x00\xff"}, {"%i%f%L", 0, "%i%f%L"},
	} {
		checkText(t, row.format, row.x, row.want, api.OK)
	}
}

// P13.1: the names of all days and months.
func TestNames(t *testing.T) {
	// 2023 began on a Sunday.
	for i, name := range []string{"Sunday", "Monday", "Tuesday", "Wednesday", "Thursday", "Friday", "Saturday"} {
		x, _ := counted(six(2023, 1, 1+i, 0, 0, 0))
		checkText(t, "%a %A %w", x, name[:3]+" "+name+" "+strconv.Itoa(i), api.OK)
	}
	for i, name := range []string{"January", "February", "March", "April", "May", "June", "July", "August", "September", "October", "November", "December"} {
		x, _ := counted(six(2023, 1+i, 1, 0, 0, 0))
		checkText(t, "%b %h %B", x, name[:3]+" "+name[:3]+" "+name, api.OK)
	}
}

// P13.1: all short formats, and such as come by chance.
func TestFormats(t *testing.T) {
	d := newDice(135)
	probe.EachWord("", 5, []string{"%", "Y", "%F", "q", "%e"}, func(format string) {
		x := d.time()
		checkText(t, format, x, written(format, x), api.OK)
	})
	for range 5000 {
		x := d.time()
		format := d.Word(80, "%%%%%%%%%%%%aAbBhCyYmdHMSeIpjuwUWVGgsntzZDFRTEqQ \n\x00-x")
		checkText(t, format, x, written(format, x), api.OK)
	}
}

// P13.1, R4: the greatest length, however it comes about, and one byte more.
func TestGreatest(t *testing.T) {
	x := func(n int) string { return strings.Repeat("x", n) }
	const noon = 946731909
	for _, row := range []struct{ format, want string }{
		{x(1024), x(1024)}, {strings.Repeat("%%", 1024), strings.Repeat("%", 1024)}, {strings.Repeat("%n", 1024), strings.Repeat("\n", 1024)}, {strings.Repeat("%w", 1024), strings.Repeat("6", 1024)}, {strings.Repeat("%q", 512), strings.Repeat("%q", 512)}, {x(1023) + "%%", x(1023) + "%"}, {x(1014) + "%F", x(1014) + "2000-01-01"}, {"%F" + x(1014), "2000-01-01" + x(1014)}, {strings.Repeat("%T", 128), strings.Repeat("13:05:09", 128)}, {"%A" + x(1016), "Saturday" + x(1016)}, {strings.Repeat("%Y", 256), strings.Repeat("2000", 256)}, {strings.Repeat("\xc3\xa9", 512), strings.Repeat("\xc3\xa9", 512)},
	} {
		checkText(t, row.format, noon, row.want, api.OK)
		for _, more := range []string{"y", "%", "%%", "%q", "%s"} {
			checkText(t, row.format+more, noon, "", api.ErrLong)
		}
		checkText(t, "y"+row.format, noon, "", api.ErrLong)
	}
	checkText(t, x(1023)+"%", noon, x(1023)+"%", api.OK)
	checkText(t, x(1024)+"%", noon, "", api.ErrLong)
	for _, long := range []string{x(1 << 20), strings.Repeat("%", 1<<20), strings.Repeat("%A", 1<<20)} {
		checkText(t, long, noon, "", api.ErrLong)
	}
}

var sixWords = regexp.MustCompile(`^[ \t\n]*([-+]?[0-9]+)[ \t\n]+([-+]?[0-9]+)[ \t\n]+([-+]?[0-9]+)[ \t\n]+([-+]?[0-9]+)[ \t\n]+([-+]?[0-9]+)[ \t\n]+([-+]?[0-9]+)[ \t\n]*$`)

// read tells once more what Parse answers.
func read(s string) int {
	m := sixWords.FindStringSubmatch(s)
	if m == nil {
		return -1
	}
	var n []int
	for _, word := range m[1:] {
		if len(word) > 7 {
			return -1
		}
		x, _ := strconv.Atoi(word)
		n = append(n, x)
	}
	x, errno := counted(six(n...))
	if errno != api.OK {
		return -1
	}
	return x
}

// P13.1: six words, and what is something else.
func TestParse(t *testing.T) {
	const good = 946731909
	for _, s := range []string{"2000 01 01 13 05 09", "2000 1 1 13 5 9", " 2000\t1\n1  13 \t\n5 9\n", "\t\n 2000 1 1 13 5 9 \n\t", "+2000 +1 +01 +13 +5 +9", "0002000 0000001 +000001 0000013 0000005 0000009", "1999 13 1 13 5 9", "2000 2 -30 13 5 9", "2000 1 1 0 785 9", "2000 1 1 13 6 -51", "2000 1 1 13 0 +309", "2000 1 1 13 -00 309"} {
		checkParse(t, s, good)
		for _, more := range []string{"x", " x", " 1", " 0", ".", " .", "\x00", "\v", "\f", "\r", " \r", "\xa0", "\xc2\xa0", " \xe2\x80\x83", "\xff", " -", "-", "+"} {
			checkParse(t, s+more, -1)
		}
		for _, more := range []string{"x", "x ", "1 ", ".", "\x00", "\v", "\r", "\f ", "\xc2\xa0", "\xff", "- ", "--", "+-", "0x"} {
			checkParse(t, more+s, -1)
		}
	}
	for _, s := range []string{"", " ", "\n", "2000", "2000 1 1", "2000 1 1 1 1", "2000-01-01 00:00:00", "2000,1,1,0,0,0", "2000 1 1 1 1 1.", "2000 1 1 1 1 .5", "2000 1 1 1 1 1e1", "2000 1 1 1 1 0x1", "2000 1 1 1 1 1_0", "2000 1 1 1 1 -", "2000 1 1 1 1 +", "2000 1 1 1 1 --1", "2000 1 1 1 1 1-", "2000 1 - 1 1 1 1", "- 2000 1 1 1 1 1", "2000 1 1 1 1 \xd9\xa1", "2000 1 1 1\r1 1 1", "2000 1 1 1 1\v1", "2000 1 1 1 1 inf", "2000 1 1 1 1 nan", "2000 1 1 1 1 1 DST"} {
		checkParse(t, s, -1)
	}
	for _, row := range []struct {
		s    string
		want int
	}{
		{"0 1 1 0 0 0", -1}, {"0 12 31 23 59 59", -1}, {"1 1 1 0 0 -1", -1}, {"10000 1 1 0 0 0", -1}, {"10000 1 1 0 0 -1", api.MaxTime}, {"9999 12 31 23 59 60", -1}, {"0 13 1 0 0 0", api.MinTime}, {"-1 25 1 0 0 0", api.MinTime}, {"0 0 0 0 0 0", -1},
		{"1969 12 31 23 59 59", -1}, {"1970 1 1 0 0 0", 0}, {"1970 1 1 0 0 -2", -2}, {"1970 1 1 0 0 1000000", 1000000}, {"1970 1 1 0 0 +100000", 100000}, {"1970 1 1 0 0 1000001", -1}, {"1970 1 1 0 0 -999999", -999999}, {"1970 1 1 0 0 -1000000", -1}, {"1970 1 1 0 0 +1000000", -1}, {"1970 1 1 0 0 00000001", -1}, {"1970 1 1 0 0 +0000001", -1}, {"1970 1 1 0 0 0000001", 1}, {"1970 1 1 0 0 -000001", -1}, {"1970 1 1 0 0 -000002", -2}, {"1970 1 1 0 0 9999999", -1}, {"00001970 1 1 0 0 5", -1}, {"0001970 1 1 0 0 5", 5}, {"1970 1 1000000 -999999 0 0", 1000000*86400 - 86400 - 999999*3600},
		{"1970 1 1 0 0 18446744073709551617", -1}, {"4294969266 1 1 0 0 1", -1},
	} {
		checkParse(t, row.s, row.want)
	}
}

// P13.1: strings by chance, many of them almost six words.
func TestParseChance(t *testing.T) {
	d := newDice(136)
	blanks := []string{" ", " ", " ", "\t", "\n", " \t\n", "  "}
	good := 0
	check := func(s string) {
		want := read(s)
		checkParse(t, s, want)
		if want != -1 {
			good++
		}
	}
	for range 200000 {
		var s strings.Builder
		s.WriteString(d.Word(1, " \n\t+-"))
		s.WriteString(strconv.Itoa(d.Below(10100) - 50))
		for range 5 {
			s.WriteString(probe.Pick(&d.Dice, blanks))
			s.WriteString(probe.Pick(&d.Dice, []string{"", "", "", "+", "-", "0", "+00"}))
			s.WriteString(strconv.Itoa(d.Below(60)))
		}
		s.WriteString(d.Word(2, " \n\t"))
		check(s.String())
		b := []byte(s.String())
		b[d.Below(len(b))] = "0123456789 \t\n+-x\v\r.\x00\xff"[d.Below(21)]
		check(string(b))
		check(s.String()[:d.Below(len(b))])
		check(s.String() + " " + d.Word(3, "0 1"))
	}
	probe.EachWord("1 2 3 4 ", 6, []string{" ", "5", "-", "\n", "x"}, check)
	probe.EachWord("2000", 5, []string{" 1", "\n+", "-0", "7"}, check)
	if good < 200000 || good > 700000 {
		t.Errorf("%d are times", good)
	}
}

// P1: long strings end soon.
func TestLong(t *testing.T) {
	const many = 1 << 24
	for _, s := range []string{"1", " ", "1 ", "-", "x", "+ ", "\xff"} {
		checkParse(t, strings.Repeat(s, many), -1)
	}
	blanks := strings.Repeat(" \n\t", many/4)
	checkParse(t, blanks+"1970"+blanks+"1 1 0 0"+blanks+"7"+blanks, 7)
	checkParse(t, blanks+"1970 1 1 0 0 7"+blanks+"x", -1)
	checkParse(t, "1970 1 1 0 0 "+strings.Repeat("0", many), -1)
}

// R3, R8: an answer is new memory, and the same each time.
func TestAgain(t *testing.T) {
	for range 3 {
		checkOf(t, 951782400, told(951782400))
		checkAt(t, six(1999, 14, 30, -24, 0, 0), 951782400, api.OK)
		checkParse(t, "2000 2 29 0 0 0", 951782400)
		for _, format := range []string{"x", "abc", "%q", "%a", "%A", "%B", "%z", "%Z", "%F", "%T"} {
			got, _ := cal.Text(format, 951782400)
			again, _ := cal.Text(format, 951782400)
			if got != written(format, 951782400) || again != got {
				t.Errorf("%q: %q and %q", format, got, again)
			}
			if at := unsafe.StringData(got); at == unsafe.StringData(format) || at == unsafe.StringData(again) {
				t.Errorf("%q shares its memory", got)
			}
		}
	}
}
