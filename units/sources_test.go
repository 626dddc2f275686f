package units_test

import (
	"slices"
	"strings"
	"testing"

	"cohousing/api"
	"cohousing/parser"
	"cohousing/units"
)

// theHouse is by-laws as a cooperative may have them.
const theHouse = `
fact persons: number 0 to 6;
fact floor: area 30 to 60;
fact income: money 0 to 3;
fact absent: days 0 to 1;
fact works: flag 0 to 1;
charge rent 1 from 0 known 0 give floor * 9.50 money / 1 area;
charge rent 2 from 366 until 731 known 300 when not works give floor * 9.50 money / 1 area;
right help 1 from 0 known 0 when income < 2 money and (works or persons > 3) give min(persons * 20 money, 0.5 * 80 money);
duty stairs 1 about stairs from 31 known 0 when absent < 1 days and persons * floor / 2 area >= 15;
ban drums 1 about drums from 0 known 0 when true = works give 0;
rooms size 1 from 0 known 0 give if persons = 1 then 2 else persons + 1;
vote roof 1 about roof from 0 known 0 give 2 / 3;
notice flat 1 about leaving from 0 known 0 when floor / 30 area < 2 give 90 days - absent * persons;
notice flat 2 about leaving from 0 known 0 give (income / 1 money) * absent;
`

// expectSource expects the errors of a source at the places that are marked by @, in order.
func expectSource(t *testing.T, source string, want ...api.Errno) {
	t.Helper()
	var diags []api.Diag
	parts := strings.Split(source, "@")
	plain := strings.Join(parts, "")
	if len(parts) != len(want)+1 {
		t.Fatalf("%q: %d places and %d errors", source, len(parts)-1, len(want))
	}
	at := 0
	for i, e := range want {
		at += len(parts[i])
		diags = append(diags, api.Diag{At: at, E: e})
	}
	c, all := parser.Parse(plain)
	if len(all) > 0 {
		t.Fatalf("%q: %v", plain, all)
	}
	expect(t, c, diags...)
}

// P11.1: by-laws as they are written, and their errors at their places.
func TestSources(t *testing.T) {
	expectSource(t, theHouse)
	expectSource(t, "fact a: number 0 to 1;\n@fact a: flag 0 to 1;\n@fact b: flag 0 to 2;\n@fact c: days 0 to 4095;\nduty x 0 from 0 known 0;", api.ErrTwice, api.ErrRange, api.ErrLimit)
	for source, e := range map[string]api.Errno{
		"@charge x 0 from 0 known 0 give 1 money;":                                  api.ErrRange,
		"@charge x 1 from 36525 known 0 give 1 money;":                              api.ErrRange,
		"@charge rent 2 from 0 known 0 give 1 money;":                               api.ErrTwice,
		"@duty rent 3 about x from 0 known 300;":                                    api.ErrScope,
		"@charge x 1 about y from 0 known 0 give 1 money;":                          api.ErrScope,
		"@vote roof 2 from 0 known 0 give 1;":                                       api.ErrScope,
		"@notice flat 3 about staying from 0 known 0 give 1 days;":                  api.ErrScope,
		"@charge rent 4 from 0 known 300 give 1 money;":                             api.ErrState,
		"@charge rent 3 from 0 known 299 give 1 money;":                             api.ErrState,
		"charge rent 3 from 0 known 300 when @persons give 1 money;":                api.ErrUnit,
		"charge rent 3 from 0 known 300 when not (@persons + floor < 3);":           api.ErrUnit,
		"charge rent 3 from 0 known 300 when works and @work give 1 money;":         api.ErrName,
		"charge rent 3 from 0 known 300 give @floor;":                               api.ErrUnit,
		"charge rent 3 from 0 known 300 give persons * 2 money + @nobody;":          api.ErrName,
		"@charge x 1 from 0 known 0;":                                               api.ErrUnit,
		"right x 1 from 0 known 0 give @works;":                                     api.ErrUnit,
		"right x 1 from 0 known 0 give if works then income else income * @1 flag;": api.ErrUnit,
		"rooms x 1 from 0 known 0 give @3 money;":                                   api.ErrUnit,
		"vote x 1 about y from 0 known 0 give (@1 = 1);":                            api.ErrUnit,
		"duty x 1 about y from 0 known 0 give @1;":                                  api.ErrScope,
		"ban x 1 about y from 0 known 0 give @0 days;":                              api.ErrScope,
		"ban x 1 about y from 0 known 0 give @0 flag;":                              api.ErrUnit,
		"@notice x 1 about y from 0 known 0;":                                       api.ErrUnit,
		"notice x 1 about y from 0 known 0 when @1 flag = works give 1 days;":       api.ErrUnit,
	} {
		expectSource(t, theHouse+source, e)
		expectSource(t, theHouse+source+"@duty z 2 about x from 0 known 0;", e, api.ErrState)
	}
}

// P11.6: the same by-laws, with the rules coming one after the other.
func TestGrowingSources(t *testing.T) {
	c, _ := parser.Parse(theHouse)
	for i := range c.Rules {
		expect(t, api.Codex{Decls: c.Decls, Rules: c.Rules[:i]})
	}
	expect(t, api.Codex{Rules: c.Rules[:1]}, api.Diag{At: strings.Index(theHouse, "floor * 9.50"), E: api.ErrName})
}

// FuzzCheck holds by-laws and expressions of any sources against the chapter: go test -fuzz FuzzCheck ./units
func FuzzCheck(f *testing.F) {
	for _, source := range []string{"", theHouse, "fact a: flag 0 to 1; duty x 1 about a from 0 known 0 when a;", "charge rent 2 from 0 until 36525 known 36524 when 1 flag give 0.5 money;", "a * a / m + min(1 money, m)"} {
		f.Add(source)
	}
	f.Fuzz(func(t *testing.T, source string) {
		if c, all := parser.Parse(source); len(all) == 0 {
			isWantedOf(t, c)
		}
		if n, e, _ := parser.Expr(source); e == api.OK {
			isWanted(t, house(), n)
			if slices.Contains(units.Check(bylaws(changed(api.RuleVote, func(u *api.Rule) { u.Give = n }))), malformed()) {
				t.Errorf("%q is not well-formed", source)
			}
		}
	})
}
