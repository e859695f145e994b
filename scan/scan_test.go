package scan

import (
	"math/big"
	"regexp"
	"slices"
	"strconv"
	"strings"
	"testing"

	"stratagem/api"
)

// dice tells numbers that look thrown, the same ones in each run.
type dice uint64

func (d *dice) next() uint64 {
	*d = *d*6364136223846793005 + 1442695040888963407
	return uint64(*d) ^ uint64(*d)>>29
}

func (d *dice) upTo(n int) int {
	return int(d.next() >> 8 % uint64(n))
}

// What tokens are by the chapter's words alone: a Word and a Number at a text's beginning, and all Marks.
var (
	plainWord   = regexp.MustCompile(`^[a-z][a-z0-9_]*`)
	plainNumber = regexp.MustCompile(`^[0-9]+`)
	twoBytes    = []string{"..", "!=", "<=", ">="}
	oneByte     = []string{",", ";", ":", "[", "]", "=", "<", ">", "+", "-", "*"}
	allMarks    = slices.Concat(twoBytes, oneByte)
)

// plainMark tells the Mark with which a text begins: two bytes ahead of one.
func plainMark(text string) string {
	for _, m := range allMarks {
		if strings.HasPrefix(text, m) {
			return m
		}
	}
	return ""
}

// plainScan tells what Scan answers, by the chapter's words alone; a number is held whole, however many digits it has.
func plainScan(text string) ([]Token, int, api.Errno) {
	if len(text) > 4000 {
		return nil, 0, api.ErrBig
	}
	var l []Token
	for at := 0; at < len(text); {
		rest := text[at:]
		if rest[0] == 32 || rest[0] == 10 {
			at++
			continue
		}
		t := Token{At: at}
		if w := plainWord.FindString(rest); w != "" {
			t.Kind, t.Text = 1, w
		} else if n := plainNumber.FindString(rest); n != "" {
			v, _ := new(big.Int).SetString(n, 10)
			if v.Cmp(big.NewInt(1099511627776)) > 0 {
				return nil, at, api.ErrBig
			}
			t.Kind, t.Text, t.Value = 2, n, int(v.Int64())
		} else if m := plainMark(rest); m != "" {
			t.Kind, t.Text = 3, m
		} else {
			return nil, at, api.ErrForm
		}
		l = append(l, t)
		at += len(t.Text)
	}
	return l, 0, api.OK
}

// takes looks whether a text is scanned without error as just these tokens.
func takes(t *testing.T, text string, want ...Token) {
	t.Helper()
	if l, at, e := Scan(text); !slices.Equal(l, want) || at != 0 || e != api.OK {
		t.Errorf("Scan(%.60q): %v, %d, %d", text, l, at, e)
	}
}

// refuses looks whether a text is told as wrong, at this place, by this error, with no tokens beside.
func refuses(t *testing.T, text string, place int, wrong api.Errno) {
	t.Helper()
	if l, at, e := Scan(text); len(l) != 0 || at != place || e != wrong {
		t.Errorf("Scan(%.60q): %v, %d, %d", text, l, at, e)
	}
}

// plainly looks whether Scan answers what plainScan does.
func plainly(t *testing.T, text string) {
	t.Helper()
	l, at, e := Scan(text)
	if want, place, wrong := plainScan(text); !slices.Equal(l, want) || at != place || e != wrong {
		t.Fatalf("Scan(%q): %v, %d, %d", text, l, at, e)
	}
}

// P7.1: the kinds' numbers, and the greatest number.
func TestConstants(t *testing.T) {
	if Word != 1 || Number != 2 || Mark != 3 || MostValue != 1099511627776 {
		t.Errorf("%d, %d, %d, %d", Word, Number, Mark, MostValue)
	}
}

// P7.1: the chapter's example, and whole texts of models.
func TestScan(t *testing.T) {
	takes(t, "x<=-12..y",
		Token{Word, "x", 0, 0}, Token{Mark, "<=", 0, 1}, Token{Mark, "-", 0, 3}, Token{Number, "12", 12, 4},
		Token{Mark, "..", 0, 6}, Token{Word, "y", 0, 8})
	takes(t, "forall y in 0..1;\nexists x in 0 ..1 ;\n goal\ny - 2*x = 0;\n",
		Token{Word, "forall", 0, 0}, Token{Word, "y", 0, 7}, Token{Word, "in", 0, 9}, Token{Number, "0", 0, 12},
		Token{Mark, "..", 0, 13}, Token{Number, "1", 1, 15}, Token{Mark, ";", 0, 16},
		Token{Word, "exists", 0, 18}, Token{Word, "x", 0, 25}, Token{Word, "in", 0, 27}, Token{Number, "0", 0, 30},
		Token{Mark, "..", 0, 32}, Token{Number, "1", 1, 34}, Token{Mark, ";", 0, 36},
		Token{Word, "goal", 0, 39}, Token{Word, "y", 0, 44}, Token{Mark, "-", 0, 46}, Token{Number, "2", 2, 48},
		Token{Mark, "*", 0, 49}, Token{Word, "x", 0, 50}, Token{Mark, "=", 0, 52}, Token{Number, "0", 0, 54},
		Token{Mark, ";", 0, 55})
	takes(t, "element i,v[7:08,]",
		Token{Word, "element", 0, 0}, Token{Word, "i", 0, 8}, Token{Mark, ",", 0, 9}, Token{Word, "v", 0, 10},
		Token{Mark, "[", 0, 11}, Token{Number, "7", 7, 12}, Token{Mark, ":", 0, 13}, Token{Number, "08", 8, 14},
		Token{Mark, ",", 0, 16}, Token{Mark, "]", 0, 17})
}

// P7.1: texts without a token.
func TestScanNothing(t *testing.T) {
	for _, text := range []string{"", " ", "\n", "  ", "\n\n", " \n ", "\n \n", strings.Repeat(" \n", 2000)} {
		takes(t, text)
	}
}

// P7.1: a text of MostText bytes is one, of a byte more it isn't, whatever stands in it.
func TestMostText(t *testing.T) {
	if api.MostText != 4000 {
		t.Fatalf("MostText: %d", api.MostText)
	}
	takes(t, strings.Repeat("a", 4000), Token{Word, strings.Repeat("a", 4000), 0, 0})
	takes(t, strings.Repeat(" ", 3999)+"7", Token{Number, "7", 7, 3999})
	takes(t, strings.Repeat("0", 3999)+"7", Token{Number, strings.Repeat("0", 3999) + "7", 7, 0})
	refuses(t, strings.Repeat(" ", 3999)+"$", 3999, api.ErrForm)
	if l, at, e := Scan(strings.Repeat(";", 4000)); len(l) != 4000 || l[3999] != (Token{Mark, ";", 0, 3999}) || at != 0 || e != api.OK {
		t.Errorf("4000 marks: %d tokens, %d, %d", len(l), at, e)
	}
	for _, text := range []string{
		strings.Repeat("a", 4001), strings.Repeat(" ", 4001), strings.Repeat("\n", 4001), strings.Repeat(";", 4001),
		strings.Repeat("0", 4001), strings.Repeat("9", 4001), strings.Repeat("$", 4001), strings.Repeat(" ", 4000) + "$",
		" $" + strings.Repeat(" ", 3999), " 1099511627777" + strings.Repeat(" ", 4000), strings.Repeat("é", 2001),
		strings.Repeat("x = 1 ", 1000000),
	} {
		refuses(t, text, 0, api.ErrBig)
	}
}

// P7.1: a Word ends at each byte that is none of its own, and only there.
func TestWordEnds(t *testing.T) {
	for _, word := range []string{"a", "z", "x1", "x_", "a__", "some_1_word", "z9876543210_", "exists", "in"} {
		takes(t, word, Token{Word, word, 0, 0})
		for i := range 256 {
			c := byte(i)
			text := word + string([]byte{c})
			switch {
			case c >= 'a' && c <= 'z' || c >= '0' && c <= '9' || c == '_':
				takes(t, text, Token{Word, text, 0, 0})
			case c == ' ' || c == '\n':
				takes(t, text, Token{Word, word, 0, 0})
			case slices.Contains(oneByte, text[len(word):]):
				takes(t, text, Token{Word, word, 0, 0}, Token{Mark, text[len(word):], 0, len(word)})
			default:
				refuses(t, text, len(word), api.ErrForm)
			}
		}
	}
	takes(t, "x..y!=z", Token{Word, "x", 0, 0}, Token{Mark, "..", 0, 1}, Token{Word, "y", 0, 3}, Token{Mark, "!=", 0, 4}, Token{Word, "z", 0, 6})
	takes(t, "ab cd\nef", Token{Word, "ab", 0, 0}, Token{Word, "cd", 0, 3}, Token{Word, "ef", 0, 6})
}

// P7.1: no Word begins with _ or with a letter from A to Z, and none has such a letter.
func TestNoWord(t *testing.T) {
	for _, text := range []string{"_", "_a", "__", "_1", "A", "Z", "Ab", "M1", "X_"} {
		refuses(t, text, 0, api.ErrForm)
		refuses(t, " \n"+text, 2, api.ErrForm)
		refuses(t, "12"+text, 2, api.ErrForm)
		refuses(t, "x<"+text, 2, api.ErrForm)
	}
	refuses(t, "aB", 1, api.ErrForm)
	refuses(t, "goaL", 3, api.ErrForm)
}

// P7.1: Numbers and their values, with zeros ahead, too; a letter behind one begins a Word.
func TestNumber(t *testing.T) {
	for _, c := range []struct {
		text  string
		value int
	}{
		{"0", 0}, {"00", 0}, {"1", 1}, {"9", 9}, {"10", 10}, {"007", 7}, {"0123456789", 123456789}, {"987654321000", 987654321000},
		{"1048576", 1048576}, {"1099511627775", 1099511627775}, {"1099511627776", 1099511627776},
		{"0001099511627776", 1099511627776}, {strings.Repeat("0", 1900) + "1099511627776", 1099511627776},
	} {
		n := len(c.text)
		takes(t, c.text, Token{Number, c.text, c.value, 0})
		takes(t, " "+c.text+"\n", Token{Number, c.text, c.value, 1})
		takes(t, c.text+"x"+c.text, Token{Number, c.text, c.value, 0}, Token{Word, "x" + c.text, 0, n})
		takes(t, "-"+c.text+"..", Token{Mark, "-", 0, 0}, Token{Number, c.text, c.value, 1}, Token{Mark, "..", 0, n + 1})
		takes(t, c.text+" "+c.text, Token{Number, c.text, c.value, 0}, Token{Number, c.text, c.value, n + 1})
		refuses(t, c.text+"_", n, api.ErrForm)
		refuses(t, c.text+".5", n, api.ErrForm)
		refuses(t, c.text+"A", n, api.ErrForm)
	}
}

// P7.1: a Number that is more than MostValue is told where it begins, be its digits so many that 64 bits have no room.
func TestNumberBig(t *testing.T) {
	numbers := []string{
		"1099511627777", "1099511627780", "1099511627786", "1100000000000", "1999999999999", "2000000000000",
		"9999999999999", "10995116277760", "0001099511627777", strings.Repeat("0", 3000) + "1099511627777",
		"4294967296000000", "9223372036854775807", "9223372036854775808", "18446744073709551615", "18446744073709551616",
		"18446744073709551617", "18447843585337179392", "340282366920938463463374607431768211456", strings.Repeat("9", 3900),
		"1" + strings.Repeat("0", 64), "1" + strings.Repeat("0", 3900),
	}
	for i := range 100 {
		// What is left of these in 64 bits, or 32, is small again.
		over := new(big.Int).Lsh(big.NewInt(1), uint(41+i))
		numbers = append(numbers, over.String(), over.Add(over, big.NewInt(7)).String())
	}
	for _, number := range numbers {
		for _, tail := range []string{"", " ", "x", "..", " $", "$", "_"} {
			refuses(t, number+tail, 0, api.ErrBig)
			refuses(t, "\n "+number+tail, 2, api.ErrBig)
			refuses(t, "x=-"+number+tail, 3, api.ErrBig)
			refuses(t, "1099511627776 "+number+tail, 14, api.ErrBig)
		}
		// Behind a letter they are no Number.
		takes(t, "x"+number, Token{Word, "x" + number, 0, 0})
		takes(t, "x_"+number, Token{Word, "x_" + number, 0, 0})
	}
}

// P7.1: each Mark, alone, beside itself, and beside each other one; where two bytes make one, they do.
func TestMarks(t *testing.T) {
	if len(allMarks) != 15 {
		t.Fatalf("%d marks", len(allMarks))
	}
	for _, m := range allMarks {
		takes(t, m, Token{Mark, m, 0, 0})
		takes(t, "a"+m+"1", Token{Word, "a", 0, 0}, Token{Mark, m, 0, 1}, Token{Number, "1", 1, 1 + len(m)})
		for _, n := range allMarks {
			takes(t, m+" "+n, Token{Mark, m, 0, 0}, Token{Mark, n, 0, len(m) + 1})
			takes(t, m+"\n"+n, Token{Mark, m, 0, 0}, Token{Mark, n, 0, len(m) + 1})
			if (m == "<" || m == ">") && n == "=" {
				takes(t, m+n, Token{Mark, m + n, 0, 0})
				continue
			}
			takes(t, m+n, Token{Mark, m, 0, 0}, Token{Mark, n, 0, len(m)})
		}
	}
}

// P7.1: bytes that are half of a Mark, and rows of such bytes: the first two make one, if they do.
func TestRowsOfMarks(t *testing.T) {
	for _, c := range []struct {
		text  string
		marks string // parted by a space each
	}{
		{"< =", "< ="}, {"> =", "> ="}, {"<\n=", "< ="}, {"=<", "= <"}, {"=>", "= >"}, {"==", "= ="}, {"<>", "< >"}, {"><", "> <"},
		{"....", ".. .."}, {"!=!=", "!= !="}, {"!==", "!= ="}, {"<==", "<= ="}, {">==", ">= ="}, {"<<=", "< <="}, {">>=", "> >="},
		{"<=>", "<= >"}, {"<>=", "< >="}, {"=<=", "= <="}, {"===", "= = ="}, {"<=>=", "<= >="}, {"<=<=", "<= <="}, {"=!==", "= != ="},
		{"..<=", ".. <="}, {"--", "- -"}, {"-+*", "- + *"}, {"[];", "[ ] ;"}, {"::", ": :"},
	} {
		var want []Token
		at := 0
		for _, m := range strings.Fields(c.marks) {
			at += strings.Index(c.text[at:], m)
			want = append(want, Token{Mark, m, 0, at})
			at += len(m)
		}
		takes(t, c.text, want...)
	}
	for _, c := range []struct {
		text  string
		place int
	}{
		{".", 0}, {"!", 0}, {". .", 0}, {"! =", 0}, {"!\n=", 0}, {".\n.", 0}, {"...", 2}, {".....", 4}, {"....!", 4}, {"!=!", 2}, {"!!=", 0},
		{"!<=", 0}, {".=", 0}, {".!=", 0}, {"..!", 2}, {"=.", 1}, {"=!", 1}, {"<!=.", 3}, {"<!", 1}, {"0.1", 1}, {"0...1", 3}, {"x.y", 1}, {"x!y", 1},
	} {
		refuses(t, c.text, c.place, api.ErrForm)
	}
}

// P7.1: a byte that no token has is told at the text's first place, at its last one, and in between.
func TestStrangeBytes(t *testing.T) {
	known := "abcdefghijklmnopqrstuvwxyz0123456789 \n,;:[]=<>+-*"
	for i := range 256 {
		c := string([]byte{byte(i)})
		if strings.Contains(known, c) {
			if _, at, e := Scan(c); at != 0 || e != api.OK {
				t.Errorf("Scan(%q): %d, %d", c, at, e)
			}
			continue
		}
		refuses(t, c, 0, api.ErrForm)
		refuses(t, c+" x", 0, api.ErrForm)
		refuses(t, " "+c, 1, api.ErrForm)
		refuses(t, "x = 1 ;"+c, 7, api.ErrForm)
		refuses(t, "x = "+c+" 1 ;", 4, api.ErrForm)
		refuses(t, "12"+c+"34", 2, api.ErrForm)
		refuses(t, "<="+c+">=", 2, api.ErrForm)
		if c != "_" {
			refuses(t, "x"+c+"y", 1, api.ErrForm)
		}
	}
	refuses(t, "\t", 0, api.ErrForm)
	refuses(t, "goal\ttrue;", 4, api.ErrForm)
	refuses(t, "goal true;\r\n", 10, api.ErrForm)
	refuses(t, "x\x00", 1, api.ErrForm)
	refuses(t, "größe", 2, api.ErrForm)
	refuses(t, "x = \xff", 4, api.ErrForm)
	// Letters, digits, spaces and signs of other alphabets are none of the text's.
	for _, text := range []string{"é", "а", "\u0663", "\u00a0", "\u2028", "\u2264", "\u2260", "\u2026", "\ufeffx", "\x80", "\xc3", "\xef\xbf\xbd"} {
		refuses(t, text, 0, api.ErrForm)
		refuses(t, "ab "+text, 3, api.ErrForm)
	}
}

// P7.1, R2: where two things are wrong, the first place is told, and what is wrong there.
func TestTwoWrongs(t *testing.T) {
	for _, c := range []struct {
		text  string
		place int
		wrong api.Errno
	}{
		{"$ #", 0, api.ErrForm}, {"x # $", 2, api.ErrForm}, {"$ 1099511627777", 0, api.ErrForm}, {"1099511627777 $", 0, api.ErrBig},
		{"x 1099511627777$", 2, api.ErrBig}, {"x$1099511627777", 1, api.ErrForm}, {"1099511627777 9999999999999", 0, api.ErrBig},
		{"1 1099511627777 9999999999999", 2, api.ErrBig}, {"1099511627776.9999999999999", 13, api.ErrForm}, {"1099511627777.", 0, api.ErrBig},
		{". 1099511627777", 0, api.ErrForm}, {"..1099511627777...", 2, api.ErrBig}, {"...1099511627777", 2, api.ErrForm},
		{"1099511627777_", 0, api.ErrBig}, {"_1099511627777", 0, api.ErrForm}, {"x_1099511627777 $", 16, api.ErrForm},
	} {
		refuses(t, c.text, c.place, c.wrong)
	}
}

// P7.1: what the chapter's words alone tell, of all texts of up to two bytes, and of up to five of some bytes.
func TestShortTextsPlainly(t *testing.T) {
	plainly(t, "")
	for i := range 256 {
		plainly(t, string([]byte{byte(i)}))
		for j := range 256 {
			plainly(t, string([]byte{byte(i), byte(j)}))
		}
	}
	const some = "az0_.!<>=- \n$"
	texts := []string{""}
	for range 5 {
		var longer []string
		for _, text := range texts {
			for i := range len(some) {
				longer = append(longer, text+some[i:i+1])
			}
		}
		texts = longer
		for _, text := range texts {
			plainly(t, text)
		}
	}
}

// thrown tells a text of many parts, parted or not; most are right, one in about forty isn't.
func thrown(d *dice, parts int) string {
	var b strings.Builder
	for range parts {
		switch d.upTo(10) {
		case 0, 1:
			b.WriteString([]string{"x", "goal", "a_1", "z__", "q9w8", "exists"}[d.upTo(6)])
		case 2, 3:
			b.WriteString(strconv.FormatUint(d.next()>>(24+d.upTo(40)), 10))
		case 4:
			b.WriteString(strings.Repeat("0", d.upTo(30)))
		case 5, 6:
			b.WriteString(allMarks[d.upTo(len(allMarks))])
		case 7, 8:
			b.WriteString([]string{" ", "\n", "  "}[d.upTo(3)])
		default:
			if d.upTo(4) == 0 {
				b.WriteByte(byte(d.upTo(256)))
			}
		}
	}
	return b.String()
}

// P7.1: what the chapter's words alone tell, of many texts, short and long ones, right and wrong ones.
func TestLongTextsPlainly(t *testing.T) {
	d := dice(71)
	for range 20000 {
		plainly(t, thrown(&d, d.upTo(40)))
	}
	for range 200 {
		plainly(t, thrown(&d, d.upTo(3000)))
	}
	for range 5000 {
		b := make([]byte, d.upTo(30))
		for i := range b {
			b[i] = byte(d.next() >> 16)
		}
		plainly(t, string(b))
	}
}

// joined tells a text of tokens, parted.
func joined(l []Token, by string) string {
	var all []string
	for _, k := range l {
		all = append(all, k.Text)
	}
	return strings.Join(all, by)
}

// P7.2: tokens stand at their places, rising, with nothing but spaces and line ends between; what they are shows in
// their text; and parted by a space each they come again, as long as there is room.
func TestTokensComeAgain(t *testing.T) {
	d := dice(72)
	right, long := 0, 0
	for i := range 20000 {
		text := thrown(&d, d.upTo(20))
		if i%100 == 0 {
			text = strings.Repeat(allMarks[d.upTo(len(allMarks))], 1+d.upTo(2000))
		}
		l, _, e := Scan(text)
		if e != api.OK {
			continue
		}
		right++
		end := 0
		for _, k := range l {
			if k.At < end || strings.Trim(text[end:k.At], " \n") != "" || !strings.HasPrefix(text[k.At:], k.Text) || k.Text == "" {
				t.Fatalf("%q: %v", text, k)
			}
			end = k.At + len(k.Text)
			if value, _ := strconv.Atoi(k.Text); value != k.Value || (k.Kind == Number) != (k.Text[0] >= '0' && k.Text[0] <= '9') {
				t.Fatalf("%q: %v", text, k)
			}
		}
		if strings.Trim(text[end:], " \n") != "" {
			t.Fatalf("%q: %v", text, l)
		}
		for _, by := range []string{" ", "\n", " \n "} {
			parted := joined(l, by)
			if len(parted) > api.MostText {
				long++
				refuses(t, parted, 0, api.ErrBig)
				continue
			}
			again, at, e := Scan(parted)
			want := slices.Clone(l)
			place := 0
			for i := range want {
				want[i].At = place
				place += len(want[i].Text) + len(by)
			}
			if !slices.Equal(again, want) || at != 0 || e != api.OK {
				t.Fatalf("Scan(%q): %v, %d, %d", parted, again, at, e)
			}
		}
	}
	if right < 5000 || long < 10 {
		t.Errorf("%d texts were right, %d were too long", right, long)
	}
}

// P7.2: tokens that fill MostText bytes when they are parted, and a byte more.
func TestPartedMostText(t *testing.T) {
	for _, c := range []struct {
		text string
		fits bool
	}{
		{strings.Repeat(";", 2000) + "ab", false},
		{strings.Repeat(";", 2000), true},
		{strings.Repeat(";", 1999) + "ab", true},
		{strings.Repeat(";", 1999) + "abc", false},
	} {
		l, _, e := Scan(c.text)
		again, at, f := Scan(joined(l, " "))
		if e != api.OK || at != 0 || (f == api.OK) != c.fits || c.fits && len(again) != len(l) || !c.fits && (again != nil || f != api.ErrBig) {
			t.Errorf("%d tokens: %d again, %d, %d, %d", len(l), len(again), at, e, f)
		}
	}
}

// R3, R4, R5: tokens that were answered may be changed; the next answer is as it was, whatever was scanned between.
func TestAnswersShareNothing(t *testing.T) {
	const text = "x <= 12 .. y ;"
	want := []Token{{Word, "x", 0, 0}, {Mark, "<=", 0, 2}, {Number, "12", 12, 5}, {Mark, "..", 0, 8}, {Word, "y", 0, 11}, {Mark, ";", 0, 13}}
	for range 3 {
		l, _, _ := Scan(text)
		other, _, _ := Scan(text)
		clear(l)
		_ = append(l[:2], Token{Kind: 9})
		refuses(t, text+"$", 14, api.ErrForm)
		refuses(t, "99999999999999", 0, api.ErrBig)
		if !slices.Equal(other, want) {
			t.Errorf("another answer became %v", other)
		}
		takes(t, text, want...)
	}
}
