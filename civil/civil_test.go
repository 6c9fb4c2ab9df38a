package civil_test

import (
	"math"
	"math/rand"
	"testing"
	"time"

	"matins/api"
	"matins/civil"
)

const (
	dayLength = 24 * 60
	allDays   = (api.MaxTime + 1) / dayLength
)

// edges are numbers that are never a part of a minute by the calendar, whose sums and products would wrap, or whose low bits alone look right.
var edges = []int{math.MinInt, math.MinInt + 1, math.MinInt32, math.MinInt32 - 1, -1 << 40, 1<<32 + 1, 1<<32 + 2000, math.MaxInt32, math.MaxInt - 1, math.MaxInt}

// anyWeeks are weekdays and numbers that are none.
var anyWeeks = append([]int{-8, -7, -1, 0, 1, 2, 3, 4, 5, 6, 7, 8}, edges...)

// plainLong is the chapter's rule, word by word.
func plainLong(year int) bool {
	switch {
	case year%400 == 0:
		return true
	case year%100 == 0:
		return false
	}
	return year%4 == 0
}

func plainDays(year, month int) int {
	days := [13]int{0, 31, 28, 31, 30, 31, 30, 31, 31, 30, 31, 30, 31}
	if month == 2 && plainLong(year) {
		return 29
	}
	return days[month]
}

// dayAfter is the first minute of the day behind the one that c is the first minute of.
func dayAfter(c api.Civil) api.Civil {
	c.Week = (c.Week + 1) % 7
	c.Day++
	if c.Day > plainDays(c.Year, c.Month) {
		c.Day = 1
		c.Month++
	}
	if c.Month > 12 {
		c.Month = 1
		c.Year++
	}
	return c
}

// byLibrary is what the library's clock says of an instant.
func byLibrary(t int64) api.Civil {
	w := time.Unix(t*60, 0).UTC()
	return api.Civil{Year: w.Year(), Month: int(w.Month()), Day: w.Day(), Hour: w.Hour(), Minute: w.Minute(), Week: int(w.Weekday())}
}

// wantPair holds From and To of one minute against one another.
func wantPair(t *testing.T, n int64, c api.Civil) {
	t.Helper()
	if got, err := civil.From(n); err != api.OK || got != c {
		t.Errorf("P4.1: From(%d): %+v, %d; want %+v", n, got, err, c)
	}
	if got, err := civil.To(c); err != api.OK || got != n {
		t.Errorf("P4.1: To(%+v): %d, %d; want %d", c, got, err, n)
	}
}

func wantNoInstant(t *testing.T, n int64) {
	t.Helper()
	if got, err := civil.From(n); err != api.ErrTime || got != (api.Civil{}) {
		t.Errorf("P4.1: From(%d): %+v, %d; want ErrTime", n, got, err)
	}
}

func wantNoMinute(t *testing.T, c api.Civil) {
	t.Helper()
	if got, err := civil.To(c); err != api.ErrTime || got != 0 {
		t.Errorf("P4.1: To(%+v): %d, %d; want ErrTime", c, got, err)
	}
}

func wantDays(t *testing.T, year, month, want int) {
	t.Helper()
	if got := civil.Days(year, month); got != want {
		t.Errorf("P4.2: Days(%d, %d): %d, want %d", year, month, got, want)
	}
}

func wantNth(t *testing.T, year, month, week, day, want int) {
	t.Helper()
	if got := civil.Nth(year, month, week, day); got != want {
		t.Errorf("P4.2: Nth(%d, %d, %d, %d): %d, want %d", year, month, week, day, got, want)
	}
}

func TestExamples(t *testing.T) {
	wantPair(t, 0, api.Civil{Year: 1970, Month: 1, Day: 1, Week: 4})
	wantPair(t, api.MaxTime, api.Civil{Year: 2399, Month: 12, Day: 31, Hour: 23, Minute: 59, Week: 5})
	wantNoInstant(t, api.MaxTime+1)
	wantPair(t, 15863790, api.Civil{Year: 2000, Month: 2, Day: 29, Hour: 12, Minute: 30, Week: 2})
	wantNoMinute(t, api.Civil{Year: 2100, Month: 2, Day: 29})
	wantDays(t, 2000, 2, 29)
	wantDays(t, 2100, 2, 28)
	wantDays(t, 1969, 1, 0)
	wantNth(t, 2024, 3, 5, 0, 31)
	wantNth(t, 2024, 11, 1, 0, 3)
	wantNth(t, 2024, 2, 5, 4, 29)
	wantNth(t, 2024, 2, 5, 5, 23)
}

func TestFromAtTheEnds(t *testing.T) {
	wantPair(t, 1, api.Civil{Year: 1970, Month: 1, Day: 1, Minute: 1, Week: 4})
	wantPair(t, api.MaxTime-1, api.Civil{Year: 2399, Month: 12, Day: 31, Hour: 23, Minute: 58, Week: 5})
	for _, n := range []int64{
		-1, -2, -59, -60, -dayLength, -dayLength - 1, -api.MaxTime, math.MinInt32, -1 << 32, math.MinInt64, math.MinInt64 + 1,
		api.MaxTime + 1, api.MaxTime + 2, api.MaxTime + dayLength, math.MaxInt32, 1 << 32, 1<<32 + 1, math.MaxInt64 - 1, math.MaxInt64,
	} {
		wantNoInstant(t, n)
	}
}

// Each day is held against the one before, at its first and at its last minute.
func TestEachDay(t *testing.T) {
	c := api.Civil{Year: 1970, Month: 1, Day: 1, Week: 4}
	for day := range int64(allDays) {
		first := day * dayLength
		wantPair(t, first, c)
		last := c
		last.Hour, last.Minute = 23, 59
		wantPair(t, first+dayLength-1, last)
		if t.Failed() {
			return
		}
		c = dayAfter(c)
	}
	if c.Year != 2400 || c.Month != 1 || c.Day != 1 {
		t.Errorf("P4.1: behind the last day stands %+v", c)
	}
	wantNoMinute(t, c)
}

func TestEachMinuteOfADay(t *testing.T) {
	for _, day := range []int64{0, 1, 59, 365, 11016, 47540, allDays - 1} {
		c, _ := civil.From(day * dayLength)
		for n := range int64(dayLength) {
			c.Hour, c.Minute = int(n)/60, int(n)%60
			wantPair(t, day*dayLength+n, c)
		}
	}
}

func TestMonthsBeginAndEnd(t *testing.T) {
	for year := 1970; year <= 2399; year++ {
		for month := 1; month <= 12; month++ {
			first := time.Date(year, time.Month(month), 1, 0, 0, 0, 0, time.UTC).Unix() / 60
			last := time.Date(year, time.Month(month)+1, 1, 0, 0, 0, 0, time.UTC).Unix()/60 - 1
			wantPair(t, first, api.Civil{Year: year, Month: month, Day: 1, Week: byLibrary(first).Week})
			wantPair(t, last, api.Civil{Year: year, Month: month, Day: plainDays(year, month), Hour: 23, Minute: 59, Week: byLibrary(last).Week})
		}
	}
}

// The days and the weekdays are written out, so that they hang on none of the test's own rules.
func TestYearsBeginAndEnd(t *testing.T) {
	for _, x := range []struct {
		year int
		days int64 // from the beginning of 1970 to the year's end
		week int
	}{{1970, 365, 4}, {1971, 730, 5}, {1972, 1096, 0}, {1999, 10957, 5}, {2000, 11323, 0}, {2024, 20089, 2}, {2099, 47482, 4}, {2100, 47847, 5}} {
		end := x.days * dayLength
		wantPair(t, end-1, api.Civil{Year: x.year, Month: 12, Day: 31, Hour: 23, Minute: 59, Week: x.week})
		wantPair(t, end, api.Civil{Year: x.year + 1, Month: 1, Day: 1, Week: (x.week + 1) % 7})
	}
	wantPair(t, (allDays-365)*dayLength-1, api.Civil{Year: 2398, Month: 12, Day: 31, Hour: 23, Minute: 59, Week: 4})
	wantPair(t, (allDays-365)*dayLength, api.Civil{Year: 2399, Month: 1, Day: 1, Week: 5})
}

func TestFebruary(t *testing.T) {
	for _, x := range []struct{ year, days int }{
		{1970, 28}, {1971, 28}, {1972, 29}, {1973, 28}, {2001, 28}, {2004, 29}, {2023, 28}, {2024, 29}, {2396, 29}, {2399, 28},
		{2100, 28}, {2200, 28}, {2300, 28}, {2096, 29}, {2104, 29}, {2000, 29}, {1996, 29},
	} {
		wantDays(t, x.year, 2, x.days)
		last, err := civil.To(api.Civil{Year: x.year, Month: 2, Day: x.days, Hour: 23, Minute: 59})
		if err != api.OK {
			t.Errorf("P4.1: the last minute of February %d: %d", x.year, err)
		}
		c, _ := civil.From(last + 1)
		if c != (api.Civil{Year: x.year, Month: 3, Day: 1, Week: c.Week}) {
			t.Errorf("P4.1: behind February %d stands %+v", x.year, c)
		}
		for day := x.days + 1; day <= 32; day++ {
			wantNoMinute(t, api.Civil{Year: x.year, Month: 2, Day: day})
		}
	}
}

func TestFromAndToOfOneAnother(t *testing.T) {
	chance := rand.New(rand.NewSource(1))
	for range 200000 {
		n := chance.Int63n(api.MaxTime + 1)
		wantPair(t, n, byLibrary(n))
		if t.Failed() {
			return
		}
	}
}

func TestToWithAnyWeek(t *testing.T) {
	for _, n := range []int64{0, 1439, 1440, 15863790, 68428800, api.MaxTime} {
		c, _ := civil.From(n)
		for _, c.Week = range anyWeeks {
			if got, err := civil.To(c); err != api.OK || got != n {
				t.Errorf("P4.1: To(%+v): %d, %d; want %d", c, got, err, n)
			}
		}
	}
}

// part is a part of a minute: where it stands, and what it is at the least and at the most.
type part struct {
	name        string
	at          *int
	least, most int
}

func parts(c *api.Civil) []part {
	return []part{
		{"Year", &c.Year, 1970, 2399},
		{"Month", &c.Month, 1, 12},
		{"Day", &c.Day, 1, plainDays(c.Year, c.Month)},
		{"Hour", &c.Hour, 0, 23},
		{"Minute", &c.Minute, 0, 59},
	}
}

func TestToAtEachPartsEnds(t *testing.T) {
	for _, start := range []api.Civil{
		{Year: 1970, Month: 1, Day: 1}, {Year: 2000, Month: 1, Day: 1}, {Year: 2024, Month: 2, Day: 20, Hour: 12, Minute: 30},
		{Year: 2100, Month: 2, Day: 28}, {Year: 2024, Month: 4, Day: 1}, {Year: 2399, Month: 12, Day: 28, Hour: 23, Minute: 59},
	} {
		c := start
		for _, p := range parts(&c) {
			was := *p.at
			for _, *p.at = range []int{p.least, p.least + 1, p.most - 1, p.most} {
				want := time.Date(c.Year, time.Month(c.Month), c.Day, c.Hour, c.Minute, 0, 0, time.UTC).Unix() / 60
				if got, err := civil.To(c); err != api.OK || got != want {
					t.Errorf("P4.1: %s: To(%+v): %d, %d; want %d", p.name, c, got, err, want)
				}
			}
			for _, *p.at = range append([]int{p.least - 1, p.least - 2, p.most + 1, p.most + 2, -p.most}, edges...) {
				wantNoMinute(t, c)
			}
			*p.at = was
		}
	}
	wantNoMinute(t, api.Civil{})
}

// Where several parts are wrong, they don't make up for one another.
func TestToWithSeveralWrong(t *testing.T) {
	for _, c := range []api.Civil{
		{Year: 1970, Month: 1, Day: 2, Hour: -1},
		{Year: 1970, Month: 1, Day: 2, Minute: -1},
		{Year: 1969, Month: 13, Day: 1},
		{Year: 1971, Month: 0, Day: 1},
		{Year: 1970, Month: 2, Day: 0},
		{Year: 1970, Month: 0, Day: 32},
		{Year: 1970, Month: 1, Day: 1, Hour: 1, Minute: -60},
		{Year: 1970, Month: 1, Day: 1, Hour: -1, Minute: 60},
		{Year: 1970, Month: 1, Day: 0, Hour: 24},
		{Year: math.MaxInt, Month: math.MaxInt, Day: math.MaxInt, Hour: math.MaxInt, Minute: math.MaxInt, Week: math.MaxInt},
		{Year: math.MinInt, Month: math.MinInt, Day: math.MinInt, Hour: math.MinInt, Minute: math.MinInt, Week: math.MinInt},
	} {
		wantNoMinute(t, c)
	}
}

func TestDaysOfEachMonth(t *testing.T) {
	for year := 1970; year <= 2399; year++ {
		sum := 0
		for month := 1; month <= 12; month++ {
			wantDays(t, year, month, plainDays(year, month))
			sum += civil.Days(year, month)
		}
		if plainLong(year) && sum != 366 || !plainLong(year) && sum != 365 {
			t.Errorf("P4.2: %d has %d days", year, sum)
		}
	}
}

func TestDaysOfNoMonth(t *testing.T) {
	for month := 1; month <= 12; month++ {
		for _, year := range append([]int{1969, 1968, 1600, 4, 1, 0, -1, -4, -2000, 2400, 2401, 2404, 4000}, edges...) {
			wantDays(t, year, month, 0)
		}
	}
	for _, month := range append([]int{0, -1, -2, -12, 13, 14, 24, 1 << 8, 1<<8 + 1}, edges...) {
		for _, year := range []int{1969, 1970, 1972, 2000, 2100, 2399, 2400} {
			wantDays(t, year, month, 0)
		}
	}
}

// counted goes through a month's days and tells on which of them a weekday falls.
func counted(year, month, day int) []int {
	var all []int
	for d := 1; d <= plainDays(year, month); d++ {
		if int(time.Date(year, time.Month(month), d, 0, 0, 0, 0, time.UTC).Weekday()) == day {
			all = append(all, d)
		}
	}
	return all
}

// The fifth is the last one, and months with four and with five of a weekday must both come up.
func TestNthHeldAgainstCounting(t *testing.T) {
	seen := map[int]int{}
	for year := 1970; year <= 2399; year++ {
		for month := 1; month <= 12; month++ {
			for day := range 7 {
				all := counted(year, month, day)
				seen[len(all)]++
				for week := 1; week <= 4; week++ {
					wantNth(t, year, month, week, day, all[week-1])
				}
				wantNth(t, year, month, 5, day, all[len(all)-1])
			}
			if t.Failed() {
				return
			}
		}
	}
	if len(seen) != 2 || seen[4] == 0 || seen[5] == 0 {
		t.Errorf("the test tries months with these numbers of a weekday: %v", seen)
	}
}

func TestNthLastOfFourAndOfFive(t *testing.T) {
	for day, want := range []int{22, 23, 24, 25, 26, 27, 28} { // February 2026 begins on a Sunday and has four of each
		wantNth(t, 2026, 2, 4, day, want)
		wantNth(t, 2026, 2, 5, day, want)
	}
	for day, want := range []int{25, 26, 27, 28, 29, 23, 24} { // February 2024 has five Thursdays alone
		wantNth(t, 2024, 2, 5, day, want)
	}
	for day, want := range []int{31, 25, 26, 27, 28, 29, 30} { // March 2024 has five Fridays, Saturdays and Sundays
		wantNth(t, 2024, 3, 5, day, want)
	}
	wantNth(t, 1970, 1, 1, 4, 1)
	wantNth(t, 1970, 1, 1, 3, 7)
	wantNth(t, 1970, 1, 5, 4, 29)
	wantNth(t, 2399, 12, 5, 5, 31)
	wantNth(t, 2399, 12, 5, 6, 25)
}

func TestNthOfNone(t *testing.T) {
	for day := range 7 {
		for _, week := range append([]int{0, -1, -4, 6, 7, 1 << 8, 1<<8 + 1}, edges...) {
			wantNth(t, 2024, 3, week, day, 0)
		}
	}
	for week := 1; week <= 5; week++ {
		for _, day := range append([]int{-1, -6, -7, 7, 8, 13, 1 << 8}, edges...) {
			wantNth(t, 2024, 3, week, day, 0)
		}
		for day := range 7 {
			for _, year := range append([]int{1969, 1968, 0, -1, 2400, 2401}, edges...) {
				wantNth(t, year, 3, week, day, 0)
			}
			for _, month := range append([]int{0, -1, 13, 14}, edges...) {
				wantNth(t, 2024, month, week, day, 0)
			}
		}
	}
	for _, n := range edges {
		wantNth(t, n, n, n, n, 0)
	}
}

// A weekday that Nth tells is the one that From tells of that day.
func TestNthAgreesWithFrom(t *testing.T) {
	for _, year := range []int{1970, 1999, 2000, 2024, 2026, 2100, 2399} {
		for month := 1; month <= 12; month++ {
			for week := 1; week <= 5; week++ {
				for day := range 7 {
					n, err := civil.To(api.Civil{Year: year, Month: month, Day: civil.Nth(year, month, week, day)})
					c, _ := civil.From(n)
					if err != api.OK || c.Week != day {
						t.Errorf("P4.2: Nth(%d, %d, %d, %d) is the weekday %d, %d", year, month, week, day, c.Week, err)
					}
				}
			}
		}
	}
}

func TestAnswersHangOnArgumentsAlone(t *testing.T) {
	for range 3 {
		wantPair(t, 15863790, api.Civil{Year: 2000, Month: 2, Day: 29, Hour: 12, Minute: 30, Week: 2})
		wantNoInstant(t, -1)
		wantNoMinute(t, api.Civil{Year: 2100, Month: 2, Day: 29})
		wantDays(t, 2400, 2, 0)
		wantNth(t, 2024, 3, 5, 0, 31)
		wantNth(t, 2024, 3, 6, 0, 0)
	}
}
