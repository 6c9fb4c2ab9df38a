package cron_test

import (
	"fmt"
	"math"
	"math/rand"
	"regexp"
	"strconv"
	"strings"
	"sync"
	"testing"

	"matins/api"
	"matins/cron"
)

// numbers of the chapter's fields: the least and the greatest of a text, and the greatest bit.
var numbers = [5][3]int{{0, 59, 59}, {0, 23, 23}, {1, 31, 31}, {1, 12, 12}, {0, 7, 6}}

const (
	allMinutes = 1<<60 - 1
	allHours   = 1<<24 - 1
	allDays    = 1<<32 - 2
	allMonths  = 1<<13 - 2
	allWeek    = 1<<7 - 1
)

// every is the expression of `* * * * *`.
var every = api.Cron{Minute: allMinutes, Hour: allHours, Day: allDays, Month: allMonths, Week: allWeek, AnyDay: true, AnyWeek: true}

// friday is 2024-03-29 12:00.
var friday = api.Civil{Year: 2024, Month: 3, Day: 29, Hour: 12, Minute: 0, Week: 5}

var (
	plainBlanks = regexp.MustCompile(`[ \t]+`)
	plainAll    = regexp.MustCompile(`\A\*(?:/([0-9]{1,4}))?\z`)
	plainSome   = regexp.MustCompile(`\A([0-9]{1,4})(?:-([0-9]{1,4})(?:/([0-9]{1,4}))?)?\z`)
)

// bitsOf is the set of numbers.
func bitsOf(ns ...int) uint64 {
	var set uint64
	for _, n := range ns {
		set |= 1 << n
	}
	return set
}

// fieldsOf points to the sets of an expression, by their fields.
func fieldsOf(c *api.Cron) [5]*uint64 {
	return [5]*uint64{&c.Minute, &c.Hour, &c.Day, &c.Month, &c.Week}
}

// withField is a text whose field is word, and whose others are `*`.
func withField(field int, word string) string {
	words := []string{"*", "*", "*", "*", "*"}
	words[field] = word
	return strings.Join(words, " ")
}

func parsed(t testing.TB, text string) api.Cron {
	t.Helper()
	c, at, e := cron.Parse(text)
	if at != 0 || e != api.OK {
		t.Fatalf("P6.1: Parse(%q): %d, %d", text, at, e)
	}
	return c
}

// holdParse holds what Parse answers against an answer.
func holdParse(t testing.TB, text string, want api.Cron, wantAt int, wantErr api.Errno) {
	t.Helper()
	c, at, e := cron.Parse(text)
	if c != want || at != wantAt || e != wantErr {
		t.Errorf("P6.1: Parse(%q): %+v, %d, %d, want %+v, %d, %d", text, c, at, e, want, wantAt, wantErr)
	}
}

// refused holds Parse to a refusal.
func refused(t testing.TB, text string, at int, e api.Errno) {
	t.Helper()
	holdParse(t, text, api.Cron{}, at, e)
}

// taken holds Parse to the numbers of one field, beside which the others are `*`.
func taken(t testing.TB, field int, word string, ns ...int) {
	t.Helper()
	want := every
	*fieldsOf(&want)[field] = bitsOf(ns...)
	want.AnyDay = want.AnyDay && (field != 2 || word == "*")
	want.AnyWeek = want.AnyWeek && (field != 4 || word == "*")
	holdParse(t, withField(field, word), want, 0, api.OK)
}

// plainItem lists an item's numbers A, B and S by the chapter's words; false, if the text is no item.
func plainItem(field int, text string) ([3]int, bool) {
	num := func(s string) int {
		n, _ := strconv.Atoi(s)
		return n
	}
	if m := plainAll.FindStringSubmatch(text); m != nil {
		step := 1
		if m[1] != "" {
			step = num(m[1])
		}
		return [3]int{numbers[field][0], numbers[field][1], step}, true
	}
	m := plainSome.FindStringSubmatch(text)
	if m == nil {
		return [3]int{}, false
	}
	from, to, step := num(m[1]), num(m[1]), 1
	if m[2] != "" {
		to = num(m[2])
	}
	if m[3] != "" {
		step = num(m[3])
	}
	return [3]int{from, to, step}, true
}

// plainField is a field's set by the chapter's words.
func plainField(field int, word string) (uint64, api.Errno) {
	var items [][3]int
	for _, text := range strings.Split(word, ",") {
		it, ok := plainItem(field, text)
		if !ok {
			return 0, api.ErrSyntax
		}
		items = append(items, it)
	}
	var set uint64
	for _, it := range items {
		least, most := numbers[field][0], numbers[field][1]
		if it[0] < least || it[0] > most || it[1] < least || it[1] > most || it[0] > it[1] || it[2] == 0 {
			return 0, api.ErrField
		}
		for n := it[0]; n <= it[1]; n++ {
			switch {
			case (n-it[0])%it[2] != 0:
			case field == 4 && n == 7:
				set |= 1
			default:
				set |= 1 << n
			}
		}
	}
	return set, api.OK
}

// plainParse is Parse by the chapter's words.
func plainParse(text string) (api.Cron, int, api.Errno) {
	if len(text) > 256 {
		return api.Cron{}, 0, api.ErrLong
	}
	var words []string
	for _, w := range plainBlanks.Split(text, -1) {
		if w != "" {
			words = append(words, w)
		}
	}
	if len(words) != 5 {
		return api.Cron{}, 5, api.ErrSyntax
	}
	var c api.Cron
	for i, w := range words {
		set, e := plainField(i, w)
		if e != api.OK {
			return api.Cron{}, i, e
		}
		*fieldsOf(&c)[i] = set
	}
	c.AnyDay = words[2] == "*"
	c.AnyWeek = words[4] == "*"
	return c, 0, api.OK
}

// plainRuns tells a set by the chapter's words: number by number, a run goes on where the one ahead is there too.
func plainRuns(set uint64) string {
	var b strings.Builder
	for n := 0; n < 64; n++ {
		there, ahead, next := set>>n&1 == 1, n > 0 && set>>(n-1)&1 == 1, n < 63 && set>>(n+1)&1 == 1
		switch {
		case there && !ahead && b.Len() > 0:
			fmt.Fprintf(&b, ",%d", n)
		case there && !ahead:
			fmt.Fprintf(&b, "%d", n)
		case there && !next:
			fmt.Fprintf(&b, "-%d", n)
		}
	}
	return b.String()
}

// plainPrint is Print, of an expression that is right, by the chapter's words.
func plainPrint(c api.Cron) string {
	words := [5]string{plainRuns(c.Minute), plainRuns(c.Hour), plainRuns(c.Day), plainRuns(c.Month), plainRuns(c.Week)}
	for i, any := range [5]bool{c.Minute == allMinutes, c.Hour == allHours, c.AnyDay, c.Month == allMonths, c.AnyWeek} {
		if any {
			words[i] = "*"
		}
	}
	return strings.Join(words[:], " ")
}

// someSet is a set of a field that has a bit: thin, thick, or all.
func someSet(r *rand.Rand, field int) uint64 {
	full := fullOf(field)
	var set uint64
	switch r.Intn(4) {
	case 0:
		set = full
	case 1:
		set = full & r.Uint64() & r.Uint64() & r.Uint64()
	case 2:
		set = full & (r.Uint64() | r.Uint64())
	default:
		set = full & r.Uint64()
	}
	if set == 0 {
		set = 1 << (numbers[field][0] + r.Intn(numbers[field][2]-numbers[field][0]+1))
	}
	return set
}

func fullOf(field int) uint64 {
	full := every
	return *fieldsOf(&full)[field]
}

// someCron is an expression that is right.
func someCron(r *rand.Rand) api.Cron {
	var c api.Cron
	for i, f := range fieldsOf(&c) {
		*f = someSet(r, i)
	}
	c.AnyDay = c.Day == allDays && r.Intn(2) == 0
	c.AnyWeek = c.Week == allWeek && r.Intn(2) == 0
	return c
}

func TestExamples(t *testing.T) {
	holdParse(t, "0 12 * * 1-5", api.Cron{Minute: 1, Hour: 1 << 12, Day: allDays, Month: allMonths, Week: bitsOf(1, 2, 3, 4, 5), AnyDay: true}, 0, api.OK)
	holdParse(t, "*/20 * 1,15 * *", api.Cron{Minute: bitsOf(0, 20, 40), Hour: allHours, Day: bitsOf(1, 15), Month: allMonths, Week: allWeek, AnyWeek: true}, 0, api.OK)
	holdParse(t, "0 0 13 * 5", api.Cron{Minute: 1, Hour: 1, Day: 1 << 13, Month: allMonths, Week: 1 << 5}, 0, api.OK)
	holdParse(t, "0 0 * * 7", api.Cron{Minute: 1, Hour: 1, Day: allDays, Month: allMonths, Week: 1, AnyDay: true}, 0, api.OK)
	for text, want := range map[string]string{"0 12 * * 1-5": "0 12 * * 1-5", "*/20 * 1,15 * *": "0,20,40 * 1,15 * *", "1-2,3 0 * * 0-6": "1-3 0 * * 0-6"} {
		if s, e := cron.Print(parsed(t, text)); s != want || e != api.OK {
			t.Errorf("P6.3: %q prints %q, %d, want %q", text, s, e, want)
		}
	}
	refused(t, "* * * *", 5, api.ErrSyntax)
	refused(t, "60 * * * *", 0, api.ErrField)
	refused(t, "* 5- * * *", 1, api.ErrSyntax)
	refused(t, "* * 0 * *", 2, api.ErrField)
	refused(t, "5-3 * * * *", 0, api.ErrField)
	refused(t, "*/0 * * * *", 0, api.ErrField)
	refused(t, "* * * x *", 3, api.ErrSyntax)
	refused(t, "1/5 * * * *", 0, api.ErrSyntax)
	thirteenth := parsed(t, "0 0 13 * 5")
	for _, r := range []struct {
		day, week int
		want      bool
	}{{13, 3, true}, {15, 5, true}, {13, 5, true}, {14, 4, false}} {
		m := api.Civil{Year: 2024, Month: 3, Day: r.day, Week: r.week}
		if cron.Fits(thirteenth, m) != r.want {
			t.Errorf("P6.2: the 13th, and each Friday: %+v, want %t", m, r.want)
		}
	}
}

func TestParseBlanks(t *testing.T) {
	want := parsed(t, "1 2 3 4 5")
	for _, text := range []string{" 1 2 3 4 5", "1 2 3 4 5 ", "\t1 2 3 4 5", "1 2 3 4 5\t", "1\t2\t3\t4\t5", "  1   2 \t 3\t\t4\t 5 \t", "\t \t1 2 3 4 \t5  \t"} {
		holdParse(t, text, want, 0, api.OK)
	}
	for _, text := range []string{"* * * * *", "\t* \t*\t* *  *\t\t"} {
		holdParse(t, text, every, 0, api.OK)
	}
	for _, text := range []string{"", " ", "\t", "  \t ", "*", "* *", "* * *", " * * * * ", "* * * * * *", "* * * * *\t*", " 1 2 3 4 5 6 7 ", "x", "x x x x", "60 60 60 60", "x x x x x x", "1 2 3 4 5 x", strings.Repeat("* ", 128)} {
		refused(t, text, 5, api.ErrSyntax)
	}
	// Other bytes, be they white elsewhere, part no words and stand in none.
	for _, white := range []string{"\n", "\r", "\v", "\f", "\x00", "\x1f", "!", "\x85", "\xa0", "\u0085", "\u00a0", "\u2003", "\u3000"} {
		refused(t, strings.Join([]string{"1", "2", "3", "4", "5"}, white), 5, api.ErrSyntax)
		refused(t, white+"1 2 3 4 5", 0, api.ErrSyntax)
		refused(t, "1 2 3"+white+" 4 5", 2, api.ErrSyntax)
		refused(t, "1 2 3 4 5"+white, 4, api.ErrSyntax)
		refused(t, "1 2 3 4"+white+"5", 5, api.ErrSyntax)
		refused(t, "1 2 3 4 "+white, 4, api.ErrSyntax)
	}
}

func TestParseLength(t *testing.T) {
	if api.MaxExpr != 256 {
		t.Fatal("the limit of the document")
	}
	want := parsed(t, "1 2 3 4 5")
	holdParse(t, "1 2 3 4 5"+strings.Repeat(" ", 256-9), want, 0, api.OK)
	holdParse(t, strings.Repeat("\t", 256-9)+"1 2 3 4 5", want, 0, api.OK)
	holdParse(t, "1"+strings.Repeat(",0001", 49)+",1 2 3 4 5", want, 0, api.OK)
	refused(t, "1 2 3 4 5"+strings.Repeat(" ", 257-9), 0, api.ErrLong)
	refused(t, strings.Repeat("\t", 257-9)+"1 2 3 4 5", 0, api.ErrLong)
	for _, piece := range []string{" ", "*", "x", "* ", "60 ", "1,", "\x00", "\xff"} {
		full := strings.Repeat(piece, 300)
		refused(t, full[:257], 0, api.ErrLong)
		refused(t, full[:300], 0, api.ErrLong)
		wantC, wantAt, wantErr := plainParse(full[:256])
		holdParse(t, full[:256], wantC, wantAt, wantErr)
	}
	refused(t, strings.Repeat("*", 256), 5, api.ErrSyntax)
	refused(t, strings.Repeat("x ", 1<<20), 0, api.ErrLong)
	// By bytes, not by letters.
	refused(t, strings.Repeat("\u00e9", 129), 0, api.ErrLong)
	refused(t, strings.Repeat("\u00e9", 128), 5, api.ErrSyntax)
}

func TestParseEnds(t *testing.T) {
	for i, r := range numbers {
		least, most := r[0], r[1]
		taken(t, i, strconv.Itoa(least), least)
		top := most
		if i == 4 {
			top = 0
		}
		taken(t, i, strconv.Itoa(most), top)
		ends := fmt.Sprintf("%d-%d", least, most)
		want := every
		want.AnyDay, want.AnyWeek = i != 2, i != 4
		holdParse(t, withField(i, ends), want, 0, api.OK)
		holdParse(t, withField(i, ends+"/1"), want, 0, api.OK)
		taken(t, i, ends+"/9999", least)
		for _, n := range []int{most + 1, most + 2, 63, 64, 65, 99, 100, 128, 256, 1000, 9999} {
			if n <= most {
				continue
			}
			for _, word := range []string{"%d", "%[1]d-%[1]d", "2-%d", "%d-2", "2-%d/1", "%[1]d-%[1]d/9", "2,%d", "%d,2", "*,%d", "%d,*", "*/2,%d,3-4"} {
				refused(t, withField(i, fmt.Sprintf(word, n)), i, api.ErrField)
			}
		}
		if least > 0 {
			for _, word := range []string{"0", "00", "0000", "0-0", "0-5", "0-5/2", "2,0", "0,2", "0-0/5"} {
				refused(t, withField(i, word), i, api.ErrField)
			}
		}
		for n := least; n <= most; n++ {
			bit := n
			if i == 4 && n == 7 {
				bit = 0
			}
			taken(t, i, strconv.Itoa(n), bit)
			taken(t, i, fmt.Sprintf("%[1]d-%[1]d", n), bit)
		}
	}
}

func TestParseDigits(t *testing.T) {
	for i := range numbers {
		for _, word := range []string{"5", "05", "005", "0005", "5-5", "0005-0005", "05-005/0001", "5-5/9999", "5-6/0002"} {
			taken(t, i, word, 5)
		}
		for _, word := range []string{"00005", "000005", "10000", "99999", "18446744073709551621", "4294967301", "00005-6", "5-00006", "5-6/00002", "*/00002", "*/10000", "3,00005", "00005,3", "+5", "-5", "5.", "5 -6", "0x5", "5e0", "\u0665", "5_", "5-+6"} {
			at := i
			if strings.Contains(word, " ") {
				at = 5
			}
			refused(t, withField(i, word), at, api.ErrSyntax)
		}
	}
}

func TestParseItems(t *testing.T) {
	taken(t, 0, "*/20", 0, 20, 40)
	taken(t, 0, "*/59", 0, 59)
	taken(t, 0, "*/60", 0)
	taken(t, 0, "*/9999", 0)
	taken(t, 0, "7", 7)
	taken(t, 0, "7-9", 7, 8, 9)
	taken(t, 0, "5-30/10", 5, 15, 25)
	taken(t, 0, "5-25/10", 5, 15, 25)
	taken(t, 0, "5-24/10", 5, 15)
	taken(t, 0, "5-5/10", 5)
	taken(t, 0, "58-59/1", 58, 59)
	taken(t, 1, "*/7", 0, 7, 14, 21)
	taken(t, 1, "*/23", 0, 23)
	taken(t, 2, "*/10", 1, 11, 21, 31)
	taken(t, 2, "*/30", 1, 31)
	taken(t, 2, "*/31", 1)
	taken(t, 3, "*/5", 1, 6, 11)
	taken(t, 3, "*/11", 1, 12)
	taken(t, 3, "2-12/5", 2, 7, 12)
	taken(t, 0, "0,7-9,5-30/10", 0, 5, 7, 8, 9, 15, 25)
	taken(t, 0, "5-30/10,7-9,0", 0, 5, 7, 8, 9, 15, 25)
	taken(t, 0, "7-9,*/20,59,59", 0, 7, 8, 9, 20, 40, 59)
	taken(t, 0, "59,*/20", 0, 20, 40, 59)
	taken(t, 0, "*/30,1", 0, 1, 30)
	taken(t, 3, "1,1,1", 1)
	for i, r := range numbers {
		for _, word := range []string{"*", "*,*", "*,3", "3,*", "*/1", "*/2,*", "*/1,*/2", "3,*,4-5/6"} {
			want := every
			want.AnyDay, want.AnyWeek = i != 2 || word == "*", i != 4 || word == "*"
			holdParse(t, withField(i, word), want, 0, api.OK)
		}
		for _, word := range []string{",", ",,", ",3", "3,", "3,,4", "*,", ",*", "*/2,", ",3-4", "3-4,", ",3-4/2", "3-4/2,"} {
			refused(t, withField(i, word), i, api.ErrSyntax)
		}
		for _, word := range []string{"-", "/", "3-", "-3", "3--4", "3-4-5", "3-*", "*-3", "*-*", "**", "*3", "3*", "3/2", "/2", "*/", "3-4/", "*//2", "*/2/2", "3-4/2/2", "3-4/2-3", "*/*", "3-4/*", "*/2-3", "*/-2", "3-/2", "-3/2", "?", "L", "x", "3x", "x3", "3;4", "3:4", "3~4", "3\\2", "@daily", "MON", "jan", "5W", "1#2"} {
			refused(t, withField(i, word), i, api.ErrSyntax)
			for _, list := range []string{word + ",3", "3," + word, "3," + word + ",4", "*," + word, "99," + word, word + ",99", "5-4," + word, "*/0," + word} {
				refused(t, withField(i, list), i, api.ErrSyntax)
			}
		}
		refused(t, withField(i, fmt.Sprintf("%d-%d", r[1], r[0])), i, api.ErrField)
		for _, word := range []string{"5-4", "5-3", "5-4/2", "5-4/9999", "*/0", "*/00", "*/0000", "3-4/0", "3-4/0000", "3-3/0", "3,5-4", "5-4,3", "3,*/0", "*/0,3", "*,3-4/0", "*,5-4"} {
			refused(t, withField(i, word), i, api.ErrField)
		}
	}
}

func TestParseTwoFaults(t *testing.T) {
	faults := []struct {
		word string
		e    api.Errno
	}{{"99", api.ErrField}, {"5-4", api.ErrField}, {"*/0", api.ErrField}, {"x", api.ErrSyntax}, {"3,", api.ErrSyntax}, {"99,x", api.ErrSyntax}, {"x,99", api.ErrSyntax}}
	for i := range 5 {
		for k := i + 1; k < 5; k++ {
			for _, first := range faults {
				for _, second := range faults {
					words := []string{"*", "*", "*", "*", "*"}
					words[i], words[k] = first.word, second.word
					refused(t, strings.Join(words, " "), i, first.e)
					refused(t, strings.Join(words, " ")+" *", 5, api.ErrSyntax)
				}
			}
		}
	}
}

func TestParseSunday(t *testing.T) {
	taken(t, 4, "7", 0)
	taken(t, 4, "0", 0)
	taken(t, 4, "0,7", 0)
	taken(t, 4, "7,0", 0)
	taken(t, 4, "7-7", 0)
	taken(t, 4, "007", 0)
	taken(t, 4, "5-7", 0, 5, 6)
	taken(t, 4, "6-7", 0, 6)
	taken(t, 4, "1-7", 0, 1, 2, 3, 4, 5, 6)
	taken(t, 4, "0-7", 0, 1, 2, 3, 4, 5, 6)
	taken(t, 4, "0-6", 0, 1, 2, 3, 4, 5, 6)
	taken(t, 4, "1-6", 1, 2, 3, 4, 5, 6)
	taken(t, 4, "1-7/3", 0, 1, 4)
	taken(t, 4, "1-7/2", 0, 1, 3, 5)
	taken(t, 4, "1-7/4", 1, 5)
	taken(t, 4, "2-7/5", 0, 2)
	taken(t, 4, "6-7/2", 6)
	taken(t, 4, "7-7/2", 0)
	taken(t, 4, "*/7", 0)
	taken(t, 4, "*/2", 0, 2, 4, 6)
	taken(t, 4, "*/3", 0, 3, 6)
	taken(t, 4, "3,7", 0, 3)
	refused(t, "* * * * 7-0", 4, api.ErrField)
	refused(t, "* * * * 7-6", 4, api.ErrField)
	refused(t, "* * * * 8", 4, api.ErrField)
	refused(t, "* * * * 7-8", 4, api.ErrField)
}

func TestParseAny(t *testing.T) {
	for _, day := range []string{"*", "*/1", "*,*", "1-31", "*,1", "1,*", "3", "*/1,*"} {
		for _, week := range []string{"*", "*/1", "*,*", "0-6", "0-7", "1-7", "*,7", "0,*", "7"} {
			c := parsed(t, "* * "+day+" * "+week)
			if c.AnyDay != (day == "*") || c.AnyWeek != (week == "*") {
				t.Errorf("P6.1: %q, %q: AnyDay %t, AnyWeek %t", day, week, c.AnyDay, c.AnyWeek)
			}
		}
	}
	if c := parsed(t, "*/1 *,* 3 1-12 4"); c.AnyDay || c.AnyWeek {
		t.Errorf("P6.1: any by other fields: %+v", c)
	}
}

// TestParseEachByte puts each byte at each place of texts that have every kind of item.
func TestParseEachByte(t *testing.T) {
	for _, text := range []string{"1-5/2,7 * 3 */2,4 5-7", "* */3,1 1-31/4,31 1-2 *", "\t59 23 31 12 7 "} {
		for i := range len(text) {
			for b := range 256 {
				other := text[:i] + string([]byte{byte(b)}) + text[i+1:]
				want, at, e := plainParse(other)
				holdParse(t, other, want, at, e)
				longer := text[:i] + string([]byte{byte(b)}) + text[i:]
				want, at, e = plainParse(longer)
				holdParse(t, longer, want, at, e)
			}
		}
	}
}

// TestParseEachText holds Parse against the plain one for each short word of the bytes that items are made of.
func TestParseEachText(t *testing.T) {
	const letters = "0127*,-/x"
	words := []string{""}
	for from := 0; len(words[from]) < 5; from++ {
		for i := range len(letters) {
			words = append(words, words[from]+letters[i:i+1])
		}
	}
	for i, word := range words {
		for field := range 5 {
			// The longest words by turns, since they are many.
			if len(word) == 5 && field != i%5 {
				continue
			}
			text := withField(field, word)
			want, at, e := plainParse(text)
			holdParse(t, text, want, at, e)
			if t.Failed() {
				return
			}
		}
	}
}

// someItem is an item, now and then one that is outside or isn't one.
func someItem(r *rand.Rand, field int) string {
	n := func() string {
		v := numbers[field][0] + r.Intn(numbers[field][1]-numbers[field][0]+1)
		if r.Intn(25) == 0 {
			v = r.Intn(12000)
		}
		return strings.Repeat("0", max(0, r.Intn(12)-9)) + strconv.Itoa(v)
	}
	switch r.Intn(24) {
	case 0:
		return "*"
	case 1:
		return "*/" + n()
	case 2, 3, 4, 5:
		return n() + "-" + n()
	case 6, 7, 8, 9:
		a, b := r.Intn(8), r.Intn(8)
		return fmt.Sprintf("%d-%d/%d", min(a, b), max(a, b), r.Intn(9))
	case 10:
		return []string{"", "x", "3/2", "*-3", "4-", "-"}[r.Intn(6)]
	}
	return n()
}

func someText(r *rand.Rand) string {
	blanks := func(least int) string {
		s := ""
		for range least + max(0, r.Intn(5)-3) {
			s += []string{" ", "\t"}[r.Intn(2)]
		}
		return s
	}
	text := blanks(0)
	count := 5
	if r.Intn(20) == 0 {
		count = r.Intn(8)
	}
	for i := range count {
		field := min(i, 4)
		word := someItem(r, field)
		for r.Intn(3) == 0 {
			word += "," + someItem(r, field)
		}
		text += word + blanks(1)
	}
	return strings.TrimSuffix(text, " ")
}

func TestParseMany(t *testing.T) {
	r := rand.New(rand.NewSource(6))
	seen := map[[2]int]int{}
	for range 100000 {
		text := someText(r)
		want, at, e := plainParse(text)
		holdParse(t, text, want, at, e)
		if t.Failed() {
			return
		}
		seen[[2]int{at, int(e)}]++
	}
	for i := range 5 {
		for _, e := range []api.Errno{api.ErrSyntax, api.ErrField} {
			if seen[[2]int{i, int(e)}] < 100 {
				t.Errorf("the texts of this test are too alike: %v", seen)
			}
		}
	}
	if seen[[2]int{0, 0}] < 1000 {
		t.Errorf("the texts of this test are too faulty: %v", seen)
	}
}

func TestCheck(t *testing.T) {
	if cron.Check(api.Cron{}) {
		t.Error("P6.2: Check of no bit")
	}
	bare := every
	bare.AnyDay, bare.AnyWeek = false, false
	thin := api.Cron{Minute: 1, Hour: 1, Day: 2, Month: 2, Week: 1}
	for _, c := range []api.Cron{every, bare, thin} {
		if !cron.Check(c) {
			t.Errorf("P6.2: Check(%+v) false", c)
		}
		for i := range numbers {
			empty := c
			empty.AnyDay, empty.AnyWeek = false, false
			*fieldsOf(&empty)[i] = 0
			if cron.Check(empty) {
				t.Errorf("P6.2: Check without a bit of the field %d", i)
			}
			empty.AnyDay, empty.AnyWeek = true, true
			if cron.Check(empty) {
				t.Errorf("P6.2: Check without a bit of the field %d, any", i)
			}
		}
	}
	for i, r := range numbers {
		for n := range 64 {
			inside := n >= r[0] && n <= r[2]
			for _, c := range []api.Cron{every, bare, thin} {
				more := c
				*fieldsOf(&more)[i] |= 1 << n
				if cron.Check(more) != inside {
					t.Errorf("P6.2: Check with the bit %d of the field %d beside %+v: %t", n, i, c, !inside)
				}
			}
			alone := thin
			*fieldsOf(&alone)[i] = 1 << n
			if cron.Check(alone) != inside {
				t.Errorf("P6.2: Check with the bit %d alone of the field %d: %t", n, i, !inside)
			}
			alone = every
			*fieldsOf(&alone)[i] &^= 1 << n
			if want := !inside || i != 2 && i != 4; cron.Check(alone) != want {
				t.Errorf("P6.2: Check any without the bit %d of the field %d: %t", n, i, !want)
			}
		}
	}
}

func TestCheckAny(t *testing.T) {
	for n := 1; n <= 31; n++ {
		for _, any := range [][2]bool{{false, false}, {true, false}, {false, true}, {true, true}} {
			c := every
			c.Day &^= 1 << n
			c.AnyDay, c.AnyWeek = any[0], any[1]
			if cron.Check(c) == any[0] {
				t.Errorf("P6.2: Check without the day %d, any %v: %t", n, any, any[0])
			}
			c.Day = 1 << n
			if cron.Check(c) == any[0] {
				t.Errorf("P6.2: Check with the day %d alone, any %v: %t", n, any, any[0])
			}
		}
	}
	for n := 0; n <= 6; n++ {
		for _, any := range [][2]bool{{false, false}, {true, false}, {false, true}, {true, true}} {
			c := every
			c.Week &^= 1 << n
			c.AnyDay, c.AnyWeek = any[0], any[1]
			if cron.Check(c) == any[1] {
				t.Errorf("P6.2: Check without the weekday %d, any %v: %t", n, any, any[1])
			}
			c.Week = 1 << n
			if cron.Check(c) == any[1] {
				t.Errorf("P6.2: Check with the weekday %d alone, any %v: %t", n, any, any[1])
			}
		}
	}
}

// plainFits is Fits, of what is right, by the chapter's words.
func plainFits(c api.Cron, m api.Civil) bool {
	bit := func(set uint64, n int) bool { return set&(1<<n) != 0 }
	if !(bit(c.Minute, m.Minute) && bit(c.Hour, m.Hour) && bit(c.Month, m.Month)) {
		return false
	}
	if neither := !c.AnyDay && !c.AnyWeek; neither {
		return bit(c.Day, m.Day) || bit(c.Week, m.Week)
	}
	return bit(c.Day, m.Day) && bit(c.Week, m.Week)
}

// TestFitsAny: the four ways of AnyDay and AnyWeek, with the day's bit there and not there, and the weekday's.
func TestFitsAny(t *testing.T) {
	for text, want := range map[string]bool{
		// Neither: one of the two is enough, be it all of them by another text.
		"0 12 29 3 5": true, "0 12 29 3 4": true, "0 12 28 3 5": true, "0 12 28 3 4": false,
		"0 12 1-31 3 4": true, "0 12 28 3 0-6": true, "0 12 */1 3 4": true, "0 12 28 3 0-7": true,
		// AnyDay alone: the weekday says it.
		"0 12 * 3 5": true, "0 12 * 3 4": false, "0 12 * 3 0-6": true,
		// AnyWeek alone: the day says it.
		"0 12 29 3 *": true, "0 12 28 3 *": false, "0 12 1-31 3 *": true,
		// Both.
		"0 12 * 3 *": true,
		// The other fields.
		"1 12 * 3 *": false, "0 11 * 3 *": false, "0 12 * 4 *": false, "59 12 29 3 5": false, "0 13 29 3 5": false, "0 12 29 2 5": false, "0 0 29 3 5": false, "* * * * *": true,
	} {
		if got := cron.Fits(parsed(t, text), friday); got != want {
			t.Errorf("P6.2: %q: %t, want %t", text, got, want)
		}
	}
}

// TestFitsWeek: the weekday is taken as it stands, be it that of the day or not.
func TestFitsWeek(t *testing.T) {
	for n := 0; n <= 6; n++ {
		c := parsed(t, "* * * * "+strconv.Itoa(n))
		for w := -10; w <= 70; w++ {
			m := friday
			m.Week = w
			if got := cron.Fits(c, m); got != (w == n) {
				t.Errorf("P6.2: the weekday %d of a minute of %d: %t", n, w, got)
			}
			if got := cron.Fits(every, m); got != (w >= 0 && w <= 6) {
				t.Errorf("P6.2: `* * * * *` of a minute of the weekday %d: %t", w, got)
			}
		}
	}
	for _, w := range []int{math.MinInt, math.MinInt32, -1, 7, 8, 64, 69, 1 << 32, 1<<32 + 5, math.MaxInt32, math.MaxInt} {
		m := friday
		m.Week = w
		// Of some of these the day alone would be enough, were the minute one.
		for _, text := range []string{"* * * * *", "0 12 29 3 5", "0 12 29 3 *", "0 12 29 3 0-6", "* * 1-31 * 0"} {
			if cron.Fits(parsed(t, text), m) {
				t.Errorf("P6.2: %q fits a minute of the weekday %d", text, w)
			}
		}
	}
}

// TestFitsNoMinute: what is no minute by the calendar nothing fits.
func TestFitsNoMinute(t *testing.T) {
	bare := every
	bare.AnyDay, bare.AnyWeek = false, false
	wrong := []api.Civil{{}, {Year: 2024, Month: 3}, {Year: 2100, Month: 2, Day: 29}, {Year: 2023, Month: 2, Day: 29}, {Year: 2024, Month: 2, Day: 30}, {Year: 2024, Month: 4, Day: 31}, {Year: 2024, Month: 3, Day: 32}, {Year: 1969, Month: 12, Day: 31}, {Year: 2400, Month: 1, Day: 1}, {Year: -2024, Month: 1, Day: 1}}
	for _, n := range []int{math.MinInt, -64, -63, -1, 60, 63, 64, 65, 1 << 32, math.MaxInt} {
		for i := range 5 {
			m := friday
			*[5]*int{&m.Year, &m.Month, &m.Day, &m.Hour, &m.Minute}[i] = n
			wrong = append(wrong, m)
		}
	}
	hour := friday
	hour.Hour = 24
	month := friday
	month.Month = 13
	wrong = append(wrong, hour, month)
	for _, m := range wrong {
		if cron.Fits(every, m) || cron.Fits(bare, m) {
			t.Errorf("P6.2: `* * * * *` fits %+v", m)
		}
	}
	for _, m := range []api.Civil{{Year: 1970, Month: 1, Day: 1}, {Year: 2399, Month: 12, Day: 31, Hour: 23, Minute: 59, Week: 6}, {Year: 2000, Month: 2, Day: 29}, friday} {
		if !cron.Fits(every, m) || !cron.Fits(bare, m) {
			t.Errorf("P6.2: `* * * * *` doesn't fit %+v", m)
		}
	}
}

// wrongCrons have one fault each, beside bits that fit friday.
func wrongCrons() []api.Cron {
	bare := every
	bare.AnyDay, bare.AnyWeek = false, false
	var wrong []api.Cron
	for i, r := range numbers {
		for n := range 64 {
			if n < r[0] || n > r[2] {
				more := bare
				*fieldsOf(&more)[i] |= 1 << n
				wrong = append(wrong, more)
			}
		}
	}
	noDay, noWeek := bare, bare
	noDay.Day, noWeek.Week = 0, 0
	someDay, someWeek := every, every
	someDay.Day &^= 1 << 3
	someWeek.Week &^= 1 << 3
	thinDay, thinWeek := every, every
	thinDay.Day, thinWeek.Week = 1<<29, 1<<5
	return append(wrong, api.Cron{}, noDay, noWeek, someDay, someWeek, thinDay, thinWeek)
}

func TestNotRight(t *testing.T) {
	for _, c := range wrongCrons() {
		if cron.Check(c) {
			t.Errorf("P6.2: Check(%+v) true", c)
		}
		if cron.Fits(c, friday) {
			t.Errorf("P6.2: %+v, that isn't right, fits", c)
		}
		if s, e := cron.Print(c); s != "" || e != api.ErrArg {
			t.Errorf("P6.3: Print(%+v): %q, %d", c, s, e)
		}
	}
	for i := range numbers {
		c := every
		c.AnyDay, c.AnyWeek = false, false
		*fieldsOf(&c)[i] = 0
		if s, e := cron.Print(c); s != "" || e != api.ErrArg {
			t.Errorf("P6.3: Print without a bit of the field %d: %q, %d", i, s, e)
		}
	}
}

// TestFitsEachNumber: each number of each field, against each other one.
func TestFitsEachNumber(t *testing.T) {
	for i, r := range numbers {
		for n := r[0]; n <= r[2]; n++ {
			c := every
			*fieldsOf(&c)[i] = 1 << n
			c.AnyDay, c.AnyWeek = i != 2, i != 4
			for k := r[0]; k <= r[2]; k++ {
				m := api.Civil{Year: 2024, Month: 1, Day: 1}
				*[5]*int{&m.Minute, &m.Hour, &m.Day, &m.Month, &m.Week}[i] = k
				if got := cron.Fits(c, m); got != (n == k) {
					t.Errorf("P6.2: the number %d of the field %d at %d: %t", n, i, k, got)
				}
			}
		}
	}
}

func TestFitsMany(t *testing.T) {
	r := rand.New(rand.NewSource(62))
	seen := [2]int{}
	for range 200000 {
		c := someCron(r)
		m := api.Civil{Year: 1970 + r.Intn(430), Month: 1 + r.Intn(12), Day: 1 + r.Intn(28), Hour: r.Intn(24), Minute: r.Intn(60), Week: r.Intn(7)}
		want := plainFits(c, m)
		if cron.Fits(c, m) != want {
			t.Fatalf("P6.2: Fits(%+v, %+v): %t", c, m, !want)
		}
		if want {
			seen[1]++
		} else {
			seen[0]++
		}
	}
	if seen[0] < 1000 || seen[1] < 1000 {
		t.Errorf("the minutes of this test are too alike: %v", seen)
	}
}

// holdPrint holds Print to a text, and Parse of it to what was printed.
func holdPrint(t testing.TB, c api.Cron, want string) {
	t.Helper()
	s, e := cron.Print(c)
	if s != want || e != api.OK {
		t.Errorf("P6.3: Print(%+v): %q, %d, want %q", c, s, e, want)
	}
	if back, at, e := cron.Parse(s); back != c || at != 0 || e != api.OK {
		t.Errorf("P6.3: what Print gave, %q, is taken as %+v, %d, %d, not as %+v", s, back, at, e, c)
	}
}

func TestPrintAll(t *testing.T) {
	for _, r := range []struct {
		anyDay, anyWeek bool
		want            string
	}{{true, true, "* * * * *"}, {true, false, "* * * * 0-6"}, {false, true, "* * 1-31 * *"}, {false, false, "* * 1-31 * 0-6"}} {
		c := every
		c.AnyDay, c.AnyWeek = r.anyDay, r.anyWeek
		holdPrint(t, c, r.want)
	}
}

func TestPrintRuns(t *testing.T) {
	for i, r := range numbers {
		least, last := r[0], r[2]
		hold := func(word string, ns ...int) {
			t.Helper()
			c := every
			*fieldsOf(&c)[i] = bitsOf(ns...)
			c.AnyDay, c.AnyWeek = i != 2, i != 4
			holdPrint(t, c, withField(i, word))
		}
		hold(fmt.Sprint(least), least)
		hold(fmt.Sprint(last), last)
		hold(fmt.Sprintf("%d-%d", least, least+1), least, least+1)
		hold(fmt.Sprintf("%d-%d", last-1, last), last-1, last)
		hold(fmt.Sprintf("%d-%d", least, least+2), least, least+1, least+2)
		hold(fmt.Sprintf("%d-%d", last-2, last), last-2, last-1, last)
		hold(fmt.Sprintf("%d,%d", least, last), least, last)
		hold(fmt.Sprintf("%d,%d", least, least+2), least, least+2)
		hold(fmt.Sprintf("%d-%d,%d-%d", least, least+1, last-1, last), least, least+1, last-1, last)
		hold(fmt.Sprintf("%d,%d-%d,%d", least, least+2, least+4, last), least, least+2, least+3, least+4, last)
		for n := least; n <= last; n++ {
			hold(fmt.Sprint(n), n)
			rest := every
			*fieldsOf(&rest)[i] &^= 1 << n
			rest.AnyDay, rest.AnyWeek = i != 2, i != 4
			holdPrint(t, rest, withField(i, plainRuns(fullOf(i)&^(1<<n))))
		}
		for from := least; from <= last; from++ {
			for to := from + 1; to <= last; to++ {
				// All bits of days and weekdays are told as a run too, since they aren't any here.
				if from == least && to == last && i != 2 && i != 4 {
					continue
				}
				var ns []int
				for n := from; n <= to; n++ {
					ns = append(ns, n)
				}
				hold(fmt.Sprintf("%d-%d", from, to), ns...)
			}
		}
	}
}

func TestPrintMany(t *testing.T) {
	r := rand.New(rand.NewSource(63))
	for range 100000 {
		c := someCron(r)
		holdPrint(t, c, plainPrint(c))
		if t.Failed() {
			return
		}
	}
}

// longest is a set of a field whose text is as long as one can be: the best run is put ahead of the best rest, from the back on.
func longest(field int) uint64 {
	type best struct {
		size int
		set  uint64
	}
	last := numbers[field][2]
	from := make([]best, last+4)
	for n := last; n >= numbers[field][0]; n-- {
		from[n] = from[n+1]
		for to := n; to <= last; to++ {
			set := uint64(1)<<(to+1) - 1<<n | from[to+2].set
			if size := len(plainRuns(set)); size > from[n].size {
				from[n] = best{size, set}
			}
		}
	}
	return from[numbers[field][0]].set
}

// TestPrintLongest: even the longest text that Print gives is short enough for Parse.
func TestPrintLongest(t *testing.T) {
	var c api.Cron
	for i, f := range fieldsOf(&c) {
		*f = longest(i)
	}
	want := plainPrint(c)
	if len(want) < 200 {
		t.Errorf("the longest text, %q, is but %d bytes long", want, len(want))
	}
	holdPrint(t, c, want)
}

// TestParseThenPrint: Print of what Parse took is taken as the same once more, and fits the same.
func TestParseThenPrint(t *testing.T) {
	r := rand.New(rand.NewSource(64))
	for range 50000 {
		c, _, e := cron.Parse(someText(r))
		if e != api.OK {
			continue
		}
		if !cron.Check(c) {
			t.Fatalf("P6.2: what Parse gave isn't right: %+v", c)
		}
		holdPrint(t, c, plainPrint(c))
	}
}

// TestTogether: the calls share nothing that one of them changes.
func TestTogether(t *testing.T) {
	var wait sync.WaitGroup
	for seed := range 8 {
		wait.Go(func() {
			r := rand.New(rand.NewSource(int64(seed)))
			for range 2000 {
				text := someText(r)
				want, at, e := plainParse(text)
				holdParse(t, text, want, at, e)
				c := someCron(r)
				holdPrint(t, c, plainPrint(c))
				if !cron.Check(c) || cron.Fits(c, friday) != plainFits(c, friday) {
					t.Errorf("P6.2: %+v", c)
				}
			}
		})
	}
	wait.Wait()
}
