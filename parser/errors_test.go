package parser_test

import (
	"slices"
	"strings"
	"testing"

	"cohousing/api"
	"cohousing/parser"
)

// wholeFact is a fact, as texts of tokens.
func wholeFact() []string { return strings.Fields("fact a : number 1 to 5 ;") }

// wholeRule is a rule with all parts.
func wholeRule() []string {
	return strings.Fields("charge x 1 about y from 0 until 9 known 2 when p give 3 ;")
}

// Sorts of tokens, as the places of both declarations have them.
const (
	begins   = " fact charge right duty ban rooms vote notice "
	unitsToo = " flag number money area days "
	operates = " + - * / = != < <= > >= and or "
	operands = " NAME NUMBER not if true min max ( "
)

// placesOfFact are the tokens that can stand at each place of wholeFact.
func placesOfFact() []string {
	return []string{begins, "NAME", " : ", unitsToo, "NUMBER", " to ", "NUMBER", " ; "}
}

// placesOfRule are the tokens that can stand at each place of wholeRule.
func placesOfRule() []string {
	return []string{begins, "NAME", "NUMBER", " about from ", "NAME", " from ", "NUMBER", " until known ", "NUMBER", " known ", "NUMBER", " when give ; ", operands, " give ; " + operates, operands, " ; " + unitsToo + operates}
}

// isPossible reports whether a text of a token is among those of a place.
func isPossible(text, place string) bool {
	isNumber := '0' <= text[0] && text[0] <= '9'
	isName := 'a' <= text[0] && text[0] <= 'z' && !strings.Contains(reserved, " "+text+" ")
	return strings.Contains(place, " "+text+" ") || isNumber && strings.Contains(place, "NUMBER") || isName && strings.Contains(place, "NAME")
}

// everyToken has a token of each sort: all reserved words, names, all beginnings of declarations, numbers, and all signs.
func everyToken() []string {
	return strings.Fields(reserved + begins + " a x_1 0 7 2.00 0.5 10000001 { } ( ) ; , : + - * / = != < <= > >= ")
}

// joinedBy is a source of tokens with one blank between each two, and the offsets of the tokens.
func joinedBy(tokens []string) (string, []int) {
	var at []int
	for i := range tokens {
		at = append(at, len(strings.Join(tokens[:i], " "))+min(i, 1))
	}
	return strings.Join(tokens, " "), at
}

// isWanted holds the result of Parse against the one by the grammar of the chapter.
func isWanted(t *testing.T, source string) {
	t.Helper()
	c, all := parser.Parse(source)
	if want, errors := wantedParse(source); !isSameCodex(c, want) || !slices.Equal(all, errors) {
		t.Fatalf("%q: got %v, %v; want %v, %v", source, c, all, want, errors)
	}
}

// P9.1: each token at each place of a declaration: either it can stand there, or it is where the error is.
func TestEachTokenAtEachPlace(t *testing.T) {
	for _, x := range []struct{ tokens, places []string }{{wholeFact(), placesOfFact()}, {wholeRule(), placesOfRule()}} {
		for i, place := range x.places {
			for _, text := range everyToken() {
				tokens := slices.Concat(x.tokens[:i], []string{text}, x.tokens[i+1:])
				source, at := joinedBy(tokens)
				_, all := parser.Parse(source)
				if isPossible(text, place) == slices.Contains(all, syntax(at[i])) {
					t.Errorf("%q at place %d: %v", source, i, all)
				}
				if !isPossible(text, place) && text != ";" && len(all) != 1 {
					t.Errorf("%q at place %d: %v", source, i, all)
				}
				isWanted(t, source)
				more, _ := joinedBy(slices.Concat(wholeRule(), tokens, wholeFact()))
				isWanted(t, more)
				inserted, _ := joinedBy(slices.Concat(x.tokens[:i], []string{text}, x.tokens[i:], wholeFact()))
				isWanted(t, inserted)
			}
		}
	}
}

// P9.1: the source ends before each token of a declaration, with gaps behind it or without.
func TestEndAtEachPlace(t *testing.T) {
	for _, tokens := range [][]string{wholeFact(), wholeRule()} {
		for i := 1; i < len(tokens); i++ {
			source, at := joinedBy(tokens[:i])
			for _, gap := range []string{"", " ", "\n\n", " # x ;", "# ;\n"} {
				refuse(t, map[string][]api.Diag{
					source + gap:        {syntax(len(source + gap))},
					"; " + source + gap: {syntax(0), syntax(2 + len(source+gap))},
				})
			}
			refuse(t, map[string][]api.Diag{source + " {": {syntax(at[i-1] + len(tokens[i-1]) + 1)}})
		}
	}
}

// P9.1: one or more tokens are missing at each place of a declaration, with other declarations behind it.
func TestMissingTokens(t *testing.T) {
	for _, tokens := range [][]string{wholeFact(), wholeRule()} {
		for i := range tokens {
			for j := i; j <= len(tokens); j++ {
				source, _ := joinedBy(slices.Concat(tokens[:i], tokens[j:], wholeFact(), wholeRule()))
				isWanted(t, source)
			}
		}
	}
}

// P9.1: a number that is no whole number at each place that has a whole one, also where another error follows it, or comes before it.
func TestNoWholeNumbers(t *testing.T) {
	for _, x := range []struct {
		tokens []string
		places []int
	}{{wholeFact(), []int{4, 6}}, {wholeRule(), []int{2, 6, 8, 10}}} {
		for _, i := range x.places {
			for _, text := range []string{"0.5", "1.25", "0.01", "499999999.5", "9999999.99"} {
				tokens := slices.Concat(x.tokens[:i], []string{text}, x.tokens[i+1:])
				source, at := joinedBy(tokens)
				there := diag(api.ErrRange, at[i])
				next, _ := joinedBy(slices.Concat(tokens[:i+1], []string{"{"}, tokens[i+1:]))
				last, _ := joinedBy(tokens[:i+1])
				before, wrong := joinedBy(slices.Concat(tokens[:i], []string{")"}, tokens[i:]))
				refuse(t, map[string][]api.Diag{
					source:         {there},
					next:           {there},
					last:           {there},
					last + ";":     {there},
					last + ";;":    {there, syntax(len(last) + 1)},
					last + " 0.5":  {there},
					last + " 1;":   {there},
					before:         {syntax(wrong[i])},
					source + " x;": {there, syntax(len(source) + 1)},
				})
			}
		}
		all := slices.Clone(x.tokens)
		for _, i := range x.places {
			all[i] = "0.5"
		}
		source, at := joinedBy(all)
		refuse(t, map[string][]api.Diag{source: {diag(api.ErrRange, at[x.places[0]])}})
		for _, i := range x.places {
			all[i] = "3.00"
		}
		source, _ = joinedBy(all)
		if _, errors := parser.Parse(source); len(errors) > 0 {
			t.Errorf("%q: %v", source, errors)
		}
	}
}

// P9.1: what is no number at all is ErrSyntax where a whole number stands.
func TestNoNumbers(t *testing.T) {
	refuse(t, map[string][]api.Diag{
		"fact a: number to 5;":                                  {syntax(15)},
		"fact a: number -1 to 5;":                               {syntax(15)},
		"fact a: number (1) to 5;":                              {syntax(15)},
		"fact a: number 1 + 1 to 5;":                            {syntax(17)},
		"fact a: number 1 number to 5;":                         {syntax(17)},
		"fact a: number 1 to b;":                                {syntax(20)},
		"fact a: 1 to 5;":                                       {syntax(8)},
		"fact a number 1 to 5;":                                 {syntax(7)},
		"charge x from 0 known 0;":                              {syntax(9)},
		"charge 1 x from 0 known 0;":                            {syntax(7)},
		"charge x 1 from -1 known 0;":                           {syntax(16)},
		"charge x 1 from 0 until known 0;":                      {syntax(24)},
		"charge x 1 from 0 known;":                              {syntax(23)},
		"charge x 1 from 0 known 0 1;":                          {syntax(26)},
		"charge x 1 from 0 known 0 until 9;":                    {syntax(26)},
		"charge x 1 known 0 from 0;":                            {syntax(11)},
		"charge x 1 from 0 about a known 0;":                    {syntax(18)},
		"charge x 1 about about from 0;":                        {syntax(17)},
		"charge x 1 from 0 known 0 give 1 when true;":           {syntax(33)},
		"charge x 1 from 0 known 0 when true when true;":        {syntax(36)},
		"charge x 1 from 0 known 0 give 1 give 2;":              {syntax(33)},
		"charge x 1 about a about b from 0 known 0;":            {syntax(19)},
		"charge x 1 from 0 until 1 until 2 known 0;":            {syntax(26)},
		"charge x 1 from 0 known 0 when give 1;":                {syntax(31)},
		"charge x 1 from 0 known 0 give;":                       {syntax(30)},
		"charge x 1 from 0 known 0 give (1;":                    {syntax(33)},
		"charge x 1 from 0 known 0 give (1;);":                  {syntax(33), syntax(34)},
		"charge x 1 from 0 known 0 give 1);":                    {syntax(32)},
		"charge x 1 from 0 known 0 when a then b;":              {syntax(33)},
		"charge x 1 from 0 known 0 when if a then b give 1;":    {syntax(43)},
		"charge x 1 from 0 known 0 give 1.5 money 2;":           {syntax(41)},
		"charge x 1 from 0 known 0 give 10000001 money 2;":      {diag(api.ErrRange, 31)},
		"charge x 1 from 0 known 0 when 10000001 money give ;;": {diag(api.ErrRange, 31), syntax(52)},
	})
}

// P9.1: what is left out behind an error at a token: everything up to and including the next `;`, or this token alone if it is one.
func TestWhatIsLeftOut(t *testing.T) {
	refuse(t, map[string][]api.Diag{
		";":                                {syntax(0)},
		";;;":                              {syntax(0), syntax(1), syntax(2)},
		"a":                                {syntax(0)},
		"a b c":                            {syntax(0)},
		"a;b;c":                            {syntax(0), syntax(2), syntax(4)},
		"a;;b":                             {syntax(0), syntax(2), syntax(3)},
		"; fact a: flag 0 to 1;":           {syntax(0)},
		"fact a: flag 0 to 1;;":            {syntax(20)},
		"fact a: flag 0 to 1; ; charge":    {syntax(21), syntax(29)},
		"fact a: flag 0 to ;fact b;":       {syntax(18), syntax(25)},
		"fact ; fact b: 1;":                {syntax(5), syntax(15)},
		"fact ;":                           {syntax(5)},
		"fact":                             {syntax(4)},
		"fact fact ;;":                     {syntax(10), syntax(11)},
		"duty x fact a: flag 0 to 1; x":    {syntax(7), syntax(28)},
		"fact a: flag 0 to 1 fact b: x;":   {syntax(20)},
		"fact a: flag 0 to 1 charge x 1;x": {syntax(20), syntax(31)},
		"duty x 0.5 fact a: 5; x":          {diag(api.ErrRange, 7), syntax(22)},
		"duty x 0.5; duty x 0.5;":          {diag(api.ErrRange, 7), diag(api.ErrRange, 19)},
		"duty x 0.5":                       {diag(api.ErrRange, 7)},
		"{ ; } ; ( ; ) ; , ; : ; + ;":      {syntax(0), syntax(4), syntax(8), syntax(12), syntax(16), syntax(20), syntax(24)},
		"charge x 1 from 0 known 0 give 1 { ; fact b":         {syntax(33), syntax(43)},
		"ban a 1 from 0 known 0 give 10000001 money + ; fact": {diag(api.ErrRange, 28), syntax(51)},
		"ban a 1 from 0 known 0 give 10000001 money":          {diag(api.ErrRange, 28)},
		"ban a 1 from 0 known 0 give 10000001 money;;":        {diag(api.ErrRange, 28), syntax(43)},
	})
}

// P9.1: an error of the lexer is alone, whatever other errors are before or behind it.
func TestErrorsOfTheLexer(t *testing.T) {
	for text, e := range map[string]api.Errno{"!": api.ErrSyntax, "A": api.ErrSyntax, "1.": api.ErrForm, "12a": api.ErrForm, "123456789.12": api.ErrRange, "abcdefghijklmnopq": api.ErrLimit} {
		for _, before := range []string{"", ";;", "a b ", "fact a: flag 0 to 1; ", "duty x 0.5; ", "1 ", "10000001 money ", "a + b ", "( ", strings.Repeat("; ", 30)} {
			for _, behind := range []string{"", " ;", " )", " !", "\n1."} {
				source, d := before+text+behind, diag(e, len(before))
				refuse(t, map[string][]api.Diag{source: {d}})
				refuseExpr(t, map[string]api.Diag{source: d})
			}
		}
	}
	for _, source := range []string{strings.Repeat(" ", 8001), strings.Repeat("; ", 4001), strings.Repeat("!", 9000)} {
		refuse(t, map[string][]api.Diag{source: {diag(api.ErrLimit, 0)}})
		refuseExpr(t, map[string]api.Diag{source: diag(api.ErrLimit, 0)})
	}
	for _, text := range []string{";", "a", "(", "1", "!"} {
		source := strings.Repeat("( ", 2000) + text
		refuse(t, map[string][]api.Diag{source: {diag(api.ErrLimit, 4000)}})
		refuseExpr(t, map[string]api.Diag{source: diag(api.ErrLimit, 4000)})
	}
}

// P9.1: tokens behind an expression; the first one has the error.
func TestBehindExpressions(t *testing.T) {
	for _, text := range everyToken() {
		if isPossible(text, unitsToo+operates) {
			continue
		}
		for _, source := range []string{"a", "(a)", "1 money", "a + b", "a < b", "not a", "min(a, b)", "if a then b else c", "true", "a or b and not c"} {
			refuseExpr(t, map[string]api.Diag{
				source + " " + text:             syntax(len(source) + 1),
				source + "\n" + text + " ; )":   syntax(len(source) + 1),
				" " + source + " " + text + "+": syntax(len(source) + 2),
			})
		}
	}
	refuseExpr(t, map[string]api.Diag{"a;": syntax(1), "a ;;": syntax(2), "1 1.5": syntax(2), "a)": syntax(1), "a 10000001 money": syntax(2), "10000001 money 1": diag(api.ErrRange, 0)})
}
