package lexer_test

import (
	"strings"
	"testing"
	"unsafe"

	"cohousing/api"
	"cohousing/lexer"
)

// full is a source of 2000 tokens, which has a number of bytes, and its outcome.
func full() (string, outcome) {
	units := []struct {
		text  string
		token func(at int) api.Token
	}{
		{"a ", func(at int) api.Token { return word(at, "a") }},
		{"2 ", func(at int) api.Token { return number(at, 2, 1) }},
		{"<=", func(at int) api.Token { return sign(at, "<=") }},
		{"; ", func(at int) api.Token { return sign(at, ";") }},
	}
	var source strings.Builder
	var want outcome
	for i := range 2000 {
		unit := units[i%len(units)]
		want.tokens = append(want.tokens, unit.token(source.Len()))
		source.WriteString(unit.text)
	}
	return strings.TrimSuffix(source.String(), " "), want
}

// P7.1: a source has at most 2000 tokens, of any kinds; gaps behind the 2000th do not matter.
func TestMostTokens(t *testing.T) {
	source, want := full()
	for _, gap := range []string{"", " ", "\n", "\t\r\n", "#", "# a", "# a\n", " # ! 12a _\n\n# \xff", strings.Repeat(" ", 8000-len(source))} {
		expect(t, map[string]outcome{source + gap: want})
		for _, more := range []string{"; a", ";", "=", "(1", "; 1.5", ";!", ";$"} {
			if len(source+gap+more) <= 8000 && (gap == "" || gap[len(gap)-1] <= ' ') {
				expect(t, map[string]outcome{source + gap + more: wrong(api.ErrLimit, len(source+gap))})
			}
		}
	}
	expect(t, map[string]outcome{
		strings.Repeat(";", 2001):             wrong(api.ErrLimit, 2000),
		strings.Repeat(";", 8000):             wrong(api.ErrLimit, 2000),
		strings.Repeat("!=", 2001):            wrong(api.ErrLimit, 4000),
		strings.Repeat("a ", 2001):            wrong(api.ErrLimit, 4000),
		strings.Repeat("1\n", 2001):           wrong(api.ErrLimit, 4000),
		strings.Repeat("1#\n", 2001):          wrong(api.ErrLimit, 6000),
		strings.Repeat("1;", 1000) + "# a":    right(lex(strings.Repeat("1;", 1000)).tokens...),
		strings.Repeat("a;", 1000) + "\n#\na": wrong(api.ErrLimit, 2003),
	})
	if got := lex(strings.Repeat(";", 2000)); len(got.tokens) != 2000 || got.e != api.OK {
		t.Errorf("2000 signs: %d tokens, error %d at %d", len(got.tokens), got.e, got.at)
	}
}

// P7.1: behind 2000 tokens, the first byte that is not in a gap is an error of the limit, whatever begins there; before them, it is another one.
func TestErrorBehindMostTokens(t *testing.T) {
	signs := strings.Repeat(";", 2000)
	for text, e := range map[string]api.Errno{
		"!": api.ErrSyntax, "_": api.ErrSyntax, ".": api.ErrSyntax, "\x00": api.ErrSyntax, "\xff": api.ErrSyntax, "é": api.ErrSyntax, "A": api.ErrSyntax,
		"12a": api.ErrForm, "1.": api.ErrForm, "1234567890": api.ErrForm, "123456789.12": api.ErrRange, "abcdefghijklmnopq": api.ErrLimit,
	} {
		expect(t, map[string]outcome{
			signs + text:                     wrong(api.ErrLimit, 2000),
			signs + "\n" + text:              wrong(api.ErrLimit, 2001),
			signs + "#" + text + "\n;":       wrong(api.ErrLimit, 2002+len(text)),
			signs + "#" + text:               right(lex(signs).tokens...),
			signs[:1999] + text:              wrong(e, 1999),
			signs[:1999] + " " + text:        wrong(e, 2000),
			signs[:1999] + text + ";;;":      wrong(e, 1999),
			signs[:1000] + text + signs:      wrong(e, 1000),
			text + signs + signs:             wrong(e, 0),
			signs + " \t" + text + " " + "a": wrong(api.ErrLimit, 2002),
		})
	}
}

// P7.1: a source has at most 8000 bytes; a longer one is an error at 0, whatever is in it.
func TestLongSources(t *testing.T) {
	blanks := strings.Repeat(" ", 8000)
	expect(t, map[string]outcome{
		blanks:                                right(),
		blanks + " ":                          wrong(api.ErrLimit, 0),
		blanks[1:] + "a":                      right(word(7999, "a")),
		blanks + "a":                          wrong(api.ErrLimit, 0),
		"a" + blanks[1:]:                      right(word(0, "a")),
		"a" + blanks:                          wrong(api.ErrLimit, 0),
		blanks[2:] + "<=":                     right(sign(7998, "<=")),
		blanks[1:] + "<=":                     wrong(api.ErrLimit, 0),
		blanks[4:] + "1.50":                   right(number(7996, 3, 2)),
		blanks[16:] + "abcdefghijklmnop":      right(word(7984, "abcdefghijklmnop")),
		blanks[17:] + "abcdefghijklmnopq":     wrong(api.ErrLimit, 7983),
		blanks[1:] + "!":                      wrong(api.ErrSyntax, 7999),
		blanks + "!":                          wrong(api.ErrLimit, 0),
		"!" + blanks[1:]:                      wrong(api.ErrSyntax, 0),
		"!" + blanks:                          wrong(api.ErrLimit, 0),
		"12a" + blanks:                        wrong(api.ErrLimit, 0),
		"#" + blanks[1:]:                      right(),
		"#" + blanks:                          wrong(api.ErrLimit, 0),
		"#" + strings.Repeat("é", 3999):       right(),
		"#" + strings.Repeat("é", 3999) + ";": right(),
		"#" + strings.Repeat("é", 4000):       wrong(api.ErrLimit, 0),
		strings.Repeat("\n", 8001):            wrong(api.ErrLimit, 0),
		strings.Repeat("1", 8001):             wrong(api.ErrLimit, 0),
		strings.Repeat("a", 8001):             wrong(api.ErrLimit, 0),
		strings.Repeat(";", 8001):             wrong(api.ErrLimit, 0),
		strings.Repeat("\xff", 8001):          wrong(api.ErrLimit, 0),
		strings.Repeat("# a ; 1.5\n", 1<<20):  wrong(api.ErrLimit, 0),
	})
}

// P7.1: of two errors in a source, the first one counts, whatever they are.
func TestFirstError(t *testing.T) {
	errors := map[string]api.Errno{"!": api.ErrSyntax, "_": api.ErrSyntax, "\xc3\x28": api.ErrSyntax, "1.": api.ErrForm, "12a": api.ErrForm, "123456789.12": api.ErrRange, "abcdefghijklmnopq": api.ErrLimit}
	for first, e := range errors {
		for second := range errors {
			for _, between := range []string{" ", "\n", ";", " a (1.5) ", "# x\n"} {
				expect(t, map[string]outcome{
					first + between + second:              wrong(e, 0),
					"b: 1;" + first + between + second:    wrong(e, 5),
					"#" + second + "\n " + first:          wrong(e, len(second)+3),
					"ab" + between + first + ";" + second: wrong(e, 2+len(between)),
				})
			}
		}
	}
}

// P7.1: an error at the last byte.
func TestErrorAtLastByte(t *testing.T) {
	for _, source := range []string{"", "a", "a ", "1.5 ", "<", "<=", "=", "# x\n", "a;b;", "(1)", "1"} {
		for _, last := range []string{"!", "$", "A", "\x00", "\x7f", "\x80", "\xff", "\v", "\f", "'", "\"", "&", "|", "[", "]", "%", "?", "@", "\\", "^", "`", "~"} {
			expect(t, map[string]outcome{source + last: wrong(api.ErrSyntax, len(source))})
		}
	}
	expect(t, map[string]outcome{
		"a;_":    wrong(api.ErrSyntax, 2),
		"a;.":    wrong(api.ErrSyntax, 2),
		"a.":     wrong(api.ErrSyntax, 1),
		"1;1.":   wrong(api.ErrForm, 2),
		"a 12_":  wrong(api.ErrForm, 2),
		"a\n 1a": wrong(api.ErrForm, 3),
	})
}

// P1: whatever is at which place, no call panics, and with an error everything else is zero.
func TestEveryByte(t *testing.T) {
	for _, place := range []string{"", "a", "1", "1.", "1.5", "<", "!", "#", "a ", "abcdefghijklmnop", "123456789", strings.Repeat(";", 2000)} {
		for c := range 256 {
			for _, behind := range []string{"", "=", " a", "\n", "\n1"} {
				source := place + string([]byte{byte(c)}) + behind
				expect(t, map[string]outcome{source: wanted(source)})
			}
		}
	}
}

// P1 and the rules: tokens do not share the memory of their source.
func TestMemory(t *testing.T) {
	b := []byte("fee <= 1.50 ;")
	tokens, _, _ := lexer.Lex(unsafe.String(&b[0], len(b)))
	for i := range b {
		b[i] = 'x'
	}
	if want := right(word(0, "fee"), sign(4, "<="), number(7, 3, 2), sign(12, ";")); !right(tokens...).isSame(want) {
		t.Errorf("got %v, want %v", tokens, want)
	}
}
