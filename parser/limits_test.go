package parser_test

import (
	"slices"
	"strconv"
	"strings"
	"testing"

	"cohousing/api"
	"cohousing/parser"
)

// wide is an expression with a number of leaves and of as little depth as possible; each of its operands is in brackets, unless it is a leaf.
func wide(leaves int) string {
	if leaves == 1 {
		return "a"
	}
	operand := func(n int) string {
		if n == 1 {
			return "a"
		}
		return "(" + wide(n) + ")"
	}
	return operand(leaves-leaves/2) + "+" + operand(leaves/2)
}

// limits are expressions, and whether they are too large; most have 198 to 202 nodes, or a depth of 19 to 22. None of them is in brackets as a whole.
func limits() map[string]bool {
	all := map[string]bool{
		"a":                       false,
		wide(100):                 false,
		"not (" + wide(100) + ")": false,
		wide(101):                 true,
		"not (" + wide(101) + ")": true,
		"min(not (" + wide(50) + ")," + wide(50) + ")":       false,
		"min(not (" + wide(50) + "),not (" + wide(50) + "))": true,
		"if not b then " + wide(49) + " else " + wide(50):    false,
		"if b then " + wide(50) + " else " + wide(50):        false,
		"if b then " + wide(50) + " else " + wide(51):        true,
		"if not b then " + wide(50) + " else " + wide(50):    true,
		wide(398): true,
	}
	for depth := 19; depth <= 22; depth++ {
		n, isLarge := depth-1, depth > 20
		all[strings.Repeat("not ", n)+"a"] = isLarge
		all[strings.Repeat("not (", n)+"a"+strings.Repeat(")", n)] = isLarge
		all["a"+strings.Repeat("+a", n)] = isLarge
		all["a"+strings.Repeat(" or b", n)] = isLarge
		all[strings.Repeat("a*(", n)+"a"+strings.Repeat(")", n)] = isLarge
		all[strings.Repeat("(", n-1)+"a"+strings.Repeat("=a)", n-1)+"=a"] = isLarge
		all[strings.Repeat("min(", n)+"a"+strings.Repeat(",b)", n)] = isLarge
		all[strings.Repeat("max(a,", n)+"a"+strings.Repeat(")", n)] = isLarge
		all[strings.Repeat("if a then b else ", n)+"a"] = isLarge
		all[strings.Repeat("if ", n)+"a"+strings.Repeat(" then b else c", n)] = isLarge
		all[strings.Repeat("if a then ", n)+"a"+strings.Repeat(" else c", n)] = isLarge
		all["b or "+strings.Repeat("not ", n-1)+"a"] = isLarge
		all[strings.Repeat("not ", n-1)+"a > b"] = isLarge
		all["a/b+"+strings.Repeat("min(1,", n-2)+"1*1"+strings.Repeat(")", n-2)] = isLarge
	}
	return all
}

// P9.1: expressions with 200 and 201 nodes, and of the depth 20 and 21, by Expr, with brackets around them and without.
func TestLimitsOfExpr(t *testing.T) {
	for source, isLarge := range limits() {
		for brackets := range 4 {
			inner := strings.Repeat("( ", brackets) + source + strings.Repeat(")", brackets)
			at := 2 * brackets
			n, e, where := parser.Expr(inner)
			if isLarge && (!isSame(n, api.Node{}) || e != api.ErrLimit || where != at) {
				t.Errorf("%.200q, too large: %v, %v at %d", inner, n, e, where)
			}
			if !isLarge && (e != api.OK || where != 0 || n.At != at) {
				t.Errorf("%.200q: %v, %v at %d", inner, n, e, where)
			}
		}
	}
}

// P9.1: the same expressions as a When and as a Give, with and without brackets around them, and with other expressions beside them.
func TestLimitsOfRules(t *testing.T) {
	for source, isLarge := range limits() {
		for brackets := range 3 {
			inner := strings.Repeat("(", brackets) + source + strings.Repeat(")", brackets)
			for before, behind := range map[string]string{
				"duty x 1 from 0 known 0 when ":                        ";",
				"duty x 1 from 0 known 0 give ":                        ";",
				"duty y 1 about a from 0 known 0 when ":                " give 1;",
				"duty y 1 about a from 0 until 9 known 0 when a give ": " ;",
				"fact a: flag 0 to 1; duty x 1 from 0 known 0 when ":   " give " + wide(60) + "; fact b: flag 0 to 1;",
				"duty z 1 from 0 known 0 when " + wide(60) + " give ":  ";",
			} {
				at := len(before) + brackets
				c, all := parser.Parse(before + inner + behind)
				if isLarge && (!isSameCodex(c, api.Codex{}) || !slices.Equal(all, []api.Diag{diag(api.ErrLimit, at)})) {
					t.Errorf("%.200q, too large: %v, %v", before+inner+behind, c, all)
				}
				if !isLarge && (len(all) > 0 || len(c.Rules) != 1 || c.Rules[0].When.At != at && c.Rules[0].Give.At != at) {
					t.Errorf("%.200q: %v, %v", before+inner+behind, c, all)
				}
			}
		}
	}
}

// P9.1: an expression that is too large, and other errors before, in, and behind it; both expressions of a rule too large; each one just small enough.
func TestLimitsAndOthers(t *testing.T) {
	large, most := wide(101), "not ("+wide(100)+")"
	begin := "duty x 1 from 0 known 0 "
	n, l := len(begin)+5, len(large)
	limit := diag(api.ErrLimit, n)
	refuse(t, map[string][]api.Diag{
		begin + "when " + large + " )":                                 {limit},
		begin + "when " + large + " ) ; )":                             {limit, syntax(n + l + 5)},
		begin + "when " + large:                                        {limit},
		begin + "when " + large + ";":                                  {limit},
		begin + "when " + large + ";;":                                 {limit, syntax(n + l + 1)},
		begin + "when " + large + " give ;":                            {limit},
		begin + "when " + large + " give ;;":                           {limit, syntax(n + l + 7)},
		begin + "when " + large + " give " + large + ";":               {limit},
		begin + "when " + large + " give 10000001 money;":              {limit},
		begin + "when " + large + " = a;":                              {limit},
		begin + "when " + large + " = a = b;":                          {limit},
		begin + "when a = " + large + " = b;":                          {limit},
		begin + "when " + large + " b; fact a: flag 0 to 1; duty":      {limit, syntax(n + l + 29)},
		begin + "when " + large + " then b;":                           {limit},
		begin + "when " + large + " 1;":                                {limit},
		begin + "give " + large + " when a;":                           {limit},
		begin + "give " + large + " give 1;":                           {limit},
		begin + "when " + large + " +;":                                {syntax(n + l + 2)},
		begin + "when (" + large + ";":                                 {syntax(n + l + 1)},
		begin + "when (" + large + " give 1;":                          {syntax(n + l + 2)},
		begin + "when " + large + " + 10000001 money;":                 {diag(api.ErrRange, n+l+3)},
		begin + "when 10000001 money + " + large + ";":                 {diag(api.ErrRange, n)},
		begin + "when " + large + " or if;":                            {syntax(n + l + 4)},
		begin + "when if a then " + large + ";":                        {syntax(n + l + 10)},
		begin + "when " + most + " give " + large + ";":                {diag(api.ErrLimit, n+len(most)+6)},
		begin + "when " + most + " give " + most + " give;":            {syntax(n + 2*len(most) + 7)},
		"duty x 0.5 from 0 known 0 when " + large + ";":                {diag(api.ErrRange, 7)},
		"duty x 1 from 0 when " + large + ";":                          {syntax(16)},
		begin + "when " + large + ";" + begin + "give " + large + ";":  {limit, diag(api.ErrLimit, 2*n+l+1)},
		begin + "when " + large + ";" + begin + "give " + large + "};": {limit, diag(api.ErrLimit, 2*n+l+1)},
	})
	if c, all := parser.Parse(begin + "when " + most + " give " + most + ";"); len(all) > 0 || len(c.Rules) != 1 {
		t.Errorf("two expressions with 200 nodes: %v", all)
	}
	refuseExpr(t, map[string]api.Diag{
		large + ")":                   syntax(l),
		large + " a":                  syntax(l + 1),
		"(" + large + "))":            syntax(l + 2),
		large + " = a = b":            syntax(l + 5),
		large + " +":                  syntax(l + 2),
		large + " + 10000001 money":   diag(api.ErrRange, l+3),
		"(" + large:                   syntax(l + 1),
		" \n((" + large + "))":        diag(api.ErrLimit, 4),
		"10000001 money + " + large:   diag(api.ErrRange, 0),
		large + " ;":                  syntax(l + 1),
		"(" + large + ") = (" + large: syntax(2*l + 6),
	})
}

// repeated are facts, or rules, one behind the other, and the offset behind them.
func repeated(text string, count int) (string, int) {
	return strings.Repeat(text, count), len(text) * count
}

// P9.1: 12 and 13 facts, 100 and 101 rules; those with an error do not count, those that are too many are left out as they are.
func TestTooMany(t *testing.T) {
	for _, x := range []struct {
		text, other, broken, large string
		most                       int
	}{
		{"fact a: flag 0 to 1;", "ban a 1 from 0 known 0;", "fact a: flag 0;", "fact a: flag 0 to 0.5;", 12},
		{"ban a 1 from 0 known 0;", "fact a: flag 0 to 1;", "ban a 1 from 0;", "ban a 1 from 0 known 0.5;", 100},
	} {
		full, end := repeated(x.text, x.most)
		n := len(x.text)
		limit := func(count int) api.Diag { return diag(api.ErrLimit, end+n*count) }
		c, all := parser.Parse(full)
		if len(all) > 0 || len(c.Decls)+len(c.Rules) != x.most {
			t.Errorf("%d of %q: %v", x.most, x.text, all)
		}
		c, all = parser.Parse(full + x.other)
		if len(all) > 0 || len(c.Decls)+len(c.Rules) != x.most+1 {
			t.Errorf("%d of %q, and %q: %v", x.most, x.text, x.other, all)
		}
		refuse(t, map[string][]api.Diag{
			full + x.text:                            {limit(0)},
			full + " #\n" + x.text:                   {diag(api.ErrLimit, end+3)},
			full + x.text + x.text:                   {limit(0), limit(1)},
			full + x.text + x.other + ";":            {limit(0), syntax(end + n + len(x.other))},
			full + x.text + x.other + x.text:         {limit(0), diag(api.ErrLimit, end+n+len(x.other))},
			full + x.text + ";":                      {limit(0), syntax(end + n)},
			full + x.text + "x;" + x.text:            {limit(0), syntax(end + n), diag(api.ErrLimit, end+n+2)},
			full + x.text[:n-1]:                      {syntax(end + n - 1)},
			full + x.text[:n-1] + "{;":               {syntax(end + n - 1)},
			full + x.broken:                          {syntax(end + len(x.broken) - 1)},
			full + x.large:                           {diag(api.ErrRange, end+len(x.large)-4)},
			full + x.broken + x.text:                 {syntax(end + len(x.broken) - 1), diag(api.ErrLimit, end+len(x.broken))},
			x.broken + full:                          {syntax(len(x.broken) - 1)},
			x.large + full:                           {diag(api.ErrRange, len(x.large)-4)},
			x.broken + x.large + full:                {syntax(len(x.broken) - 1), diag(api.ErrRange, len(x.broken)+len(x.large)-4)},
			x.broken + full + x.text:                 {syntax(len(x.broken) - 1), diag(api.ErrLimit, len(x.broken)+end)},
			";" + full + x.text:                      {syntax(0), diag(api.ErrLimit, 1+end)},
			x.text + x.broken + full[n:]:             {syntax(n + len(x.broken) - 1)},
			x.text + x.broken + full[n:] + x.text:    {syntax(n + len(x.broken) - 1), diag(api.ErrLimit, len(x.broken)+end)},
			full[n:] + x.large + x.text:              {diag(api.ErrRange, end-n+len(x.large)-4)},
			full[n:] + x.large + x.text + x.text:     {diag(api.ErrRange, end-n+len(x.large)-4), diag(api.ErrLimit, end+len(x.large))},
			full + strings.Repeat(x.text, 20):        limited(20, limit),
			full + strings.Repeat(x.text, 21):        limited(20, limit),
			full + strings.Repeat(x.text, 19) + "x;": append(limited(19, limit), syntax(end+19*n)),
		})
	}
}

// limited are as many errors, by their numbers.
func limited(count int, of func(n int) api.Diag) []api.Diag {
	var all []api.Diag
	for n := range count {
		all = append(all, of(n))
	}
	return all
}

// P9.1: a rule that is too many, with an expression that is too large: the latter is found first.
func TestTooManyAndTooLarge(t *testing.T) {
	full, end := repeated("ban a 1 from 0 known 0;", 100)
	more := "ban a 1 from 0 known 0 when "
	refuse(t, map[string][]api.Diag{
		full + more + wide(101) + ";":                             {diag(api.ErrLimit, end+len(more))},
		full + more + wide(100) + ";":                             {diag(api.ErrLimit, end)},
		full + more + "10000001 money;":                           {diag(api.ErrRange, end+len(more))},
		full + more + wide(100) + ");":                            {syntax(end + len(more) + len(wide(100)))},
		more + wide(101) + ";" + full:                             {diag(api.ErrLimit, len(more))},
		full + more + wide(100) + ";;":                            {diag(api.ErrLimit, end), syntax(end + len(more) + len(wide(100)) + 1)},
		more + wide(101) + ";" + full + "ban a 1 from 0 known 0;": {diag(api.ErrLimit, len(more)), diag(api.ErrLimit, len(more)+len(wide(101))+1+end)},
	})
}

// P9.1: after 20 errors parsing stops, whatever comes behind.
func TestTwentyErrors(t *testing.T) {
	for _, x := range []struct {
		text  string
		there api.Diag
	}{{";", syntax(0)}, {"a;", syntax(0)}, {"fact a ;", syntax(7)}, {"ban a 1.5;", diag(api.ErrRange, 6)}, {"ban a 1 from 0 known 0 when a b;", syntax(30)}, {"ban a 1 from 0 known 0 when " + strings.Repeat("not ", 20) + "a;", diag(api.ErrLimit, 28)}} {
		for count := 18; count <= 40; count++ {
			of := func(n int) api.Diag { return diag(x.there.E, x.there.At+n*len(x.text)) }
			source, end := repeated(x.text, count)
			most := limited(min(count, 20), of)
			refuse(t, map[string][]api.Diag{
				source:                          most,
				source + "fact a: flag 0 to 1;": most,
				source + " ; ; ;":               append(slices.Clone(most), limited(min(3, max(0, 20-count)), func(n int) api.Diag { return syntax(end + 1 + 2*n) })...),
				source + "!":                    {diag(api.ErrSyntax, end)},
			})
		}
	}
	for _, between := range []string{"fact a: flag 0 to 1;", "ban a 1 from 0 known 0;", "ban a 1 from 0 known 0 when a give b;"} {
		source := strings.Repeat(between+";", 12)
		more, end := repeated(between+";", 30)
		want := limited(12, func(n int) api.Diag { return syntax((n+1)*(len(between)+1) - 1) })
		refuse(t, map[string][]api.Diag{source: want})
		if _, all := parser.Parse(more); len(all) != 20 || all[19].At >= end {
			t.Errorf("%.200q: %v", more, all)
		}
	}
}

// P9.1 and P1: as many tokens as the lexer lets in, in rows, in brackets, and behind each other.
func TestGreatDepth(t *testing.T) {
	deep := func(begin, end string, count int) string {
		return strings.Repeat(begin, count) + "a" + strings.Repeat(end, count)
	}
	expectExpr(t, map[string]api.Node{deep("(", ")", 999): name(999, "a"), deep("(", ")", 999)[1:999] + "a" + strings.Repeat(")", 998): name(998, "a")})
	refuseExpr(t, map[string]api.Diag{
		deep("(", ")", 999) + ")":          syntax(1999),
		deep("(", ")", 999)[:1998]:         syntax(1998),
		strings.Repeat("(", 2000):          syntax(2000),
		strings.Repeat(")", 2000):          syntax(0),
		strings.Repeat("not ", 2000):       syntax(8000),
		deep("not ", "", 1999):             diag(api.ErrLimit, 0),
		deep("(", "+b)", 499):              diag(api.ErrLimit, 1),
		deep("a+", "", 999):                diag(api.ErrLimit, 0),
		deep("a*(", ")", 499):              diag(api.ErrLimit, 0),
		deep("a<(", ")", 499):              diag(api.ErrLimit, 0),
		deep("min(", ",b)", 398):           diag(api.ErrLimit, 0),
		deep("max(b,", ")", 398):           diag(api.ErrLimit, 0),
		strings.Repeat("min(", 1000):       syntax(4000),
		strings.Repeat("min(a,", 500):      syntax(3000),
		deep("if a then ", " else b", 390): diag(api.ErrLimit, 0),
		strings.Repeat("if ", 2000):        syntax(6000),
	})
	refuse(t, map[string][]api.Diag{
		"ban a 1 from 0 known 0 give " + deep("(", ")", 990) + "};":    {syntax(28 + 1981)},
		"ban a 1 from 0 known 0 give " + deep("(", "+b)", 490) + ";":   {diag(api.ErrLimit, 29)},
		"ban a 1 from 0 known 0 give " + strings.Repeat("(", 1000):     {syntax(1028)},
		"ban a 1 from 0 known 0 give " + deep("not(", ")", 600) + ";;": {diag(api.ErrLimit, 28), syntax(28 + 3002)},
		strings.Repeat("(", 2000):                                      {syntax(0)},
		strings.Repeat("if ", 2000):                                    {syntax(0)},
	})
	if c, all := parser.Parse("ban a 1 from 0 known 0 give " + deep("(", ")", 990) + ";"); len(all) > 0 || !isSame(c.Rules[0].Give, name(1018, "a")) {
		t.Errorf("990 brackets: %v", all)
	}
}

// P9.1: 100 rules and 12 facts of different kinds, each with all parts that fit.
func TestManyDeclarations(t *testing.T) {
	var source strings.Builder
	var want api.Codex
	for i := range 112 {
		at := source.Len()
		if i%9 == 4 && len(want.Decls) < 12 {
			source.WriteString("fact f" + strconv.Itoa(i) + ": area " + strconv.Itoa(i) + " to 900;\n")
			want.Decls = append(want.Decls, api.Decl{Name: "f" + strconv.Itoa(i), Unit: api.Unit{Area: 1}, Lo: i, Hi: 900, At: at})
			continue
		}
		u := plain(at, "r"+strconv.Itoa(i))
		u.Kind, u.Version, u.Days.From, u.Known = 1+i%7, i, 2*i, 3*i
		source.WriteString(kinds()[i%7] + " " + u.Name + " " + strconv.Itoa(i) + " from " + strconv.Itoa(2*i) + " known " + strconv.Itoa(3*i) + " give ")
		u.Give = number(source.Len(), i, 1)
		source.WriteString(strconv.Itoa(i) + ";\n")
		want.Rules = append(want.Rules, u)
	}
	if len(want.Decls) != 12 || len(want.Rules) != 100 {
		t.Fatal(len(want.Decls), len(want.Rules))
	}
	expect(t, map[string]api.Codex{source.String(): want})
}
