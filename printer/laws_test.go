package printer_test

import (
	"math"
	"math/rand/v2"
	"reflect"
	"slices"
	"strings"
	"testing"

	"cohousing/api"
	"cohousing/parser"
	"cohousing/printer"
)

// movedNode is an expression with other offsets.
func movedNode(n api.Node, at func() int) api.Node {
	n.At = at()
	n.Kids = slices.Clone(n.Kids)
	for i, kid := range n.Kids {
		n.Kids[i] = movedNode(kid, at)
	}
	return n
}

// moved are by-laws with other offsets.
func moved(c api.Codex, at func() int) api.Codex {
	c.Decls, c.Rules = slices.Clone(c.Decls), slices.Clone(c.Rules)
	for i := range c.Decls {
		c.Decls[i].At = at()
	}
	for i, u := range c.Rules {
		c.Rules[i].At, c.Rules[i].When, c.Rules[i].Give = at(), movedNode(u.When, at), movedNode(u.Give, at)
	}
	return c
}

// anywhere is any offset, also one that no source has.
func anywhere(r *rand.Rand) func() int {
	return func() int {
		return pick(r, 0, 1, -1, 8000, 8001, math.MaxInt, math.MinInt, int(r.Uint64()))
	}
}

// isWanted holds the text of by-laws against the one by the chapter, and returns it.
func isWanted(t *testing.T, c api.Codex) (string, api.Errno) {
	t.Helper()
	text, e := printer.Print(c)
	if want, f := wantedPrint(c); text != want || e != f {
		t.Fatalf("%+v: got %q, %v; want %q, %v", c, text, e, want, f)
	}
	return text, e
}

// P10.1 and P10.2: the text of an expression is the one by the chapter, and is parsed to it.
func TestBackToExpressions(t *testing.T) {
	trees(func(n api.Node) {
		text, e := printer.Expr(n)
		if want := wantedExpr(n); text != want || e != api.OK {
			t.Fatalf("%v: got %q, %v; want %q", n, text, e, want)
		}
		if !isRead(text, n) {
			t.Fatalf("%q is not %v", text, n)
		}
	})
}

// P10.1 and P10.2: the text of by-laws is the one by the chapter, and is parsed to them.
func TestBackToBylaws(t *testing.T) {
	count := map[api.Errno]int{}
	bylaws(func(_ *rand.Rand, c api.Codex) {
		text, e := isWanted(t, c)
		count[e]++
		if e != api.OK {
			return
		}
		if back, all := parser.Parse(text); !isSameCodex(back, c) || len(all) > 0 {
			t.Fatalf("%q: %+v, %v; want %+v", text, back, all, c)
		}
	})
	if count[api.OK] < 1000 || count[api.ErrLimit] < 50 {
		t.Errorf("only few by-laws: %v", count)
	}
}

// isPrinted expects that by-laws which were parsed can be printed, unless the text is too long, and that this text is parsed to the same by-laws, and printed as it is.
func isPrinted(t *testing.T, source string, c api.Codex) {
	t.Helper()
	text, e := isWanted(t, c)
	if e == api.ErrLimit && isLong(wantedText(c)) {
		return
	}
	back, all := parser.Parse(text)
	if e != api.OK || !isSameCodex(back, c) || len(all) > 0 {
		t.Fatalf("%q: %q, %v, which is %+v, %v; want %+v", source, text, e, back, all, c)
	}
	if again, e := printer.Print(back); again != text || e != api.OK {
		t.Fatalf("%q: %q, and then %q, %v", source, text, again, e)
	}
}

// P10.3: all sources of the same by-laws have the same text.
func TestSources(t *testing.T) {
	count := 0
	bylaws(func(r *rand.Rand, c api.Codex) {
		text, _ := printer.Print(c)
		for range 3 {
			source := looseBylaws(r, c)
			read, all := parser.Parse(source)
			if len(all) > 0 && all[0].E == api.ErrLimit && isLong(source) {
				continue
			}
			if len(all) > 0 || !isSameCodex(read, c) {
				t.Fatalf("%q: %+v, %v; want %+v", source, read, all, c)
			}
			isPrinted(t, source, read)
			if again, _ := printer.Print(read); again != text {
				t.Fatalf("%q: got %q, want %q", source, again, text)
			}
			count++
		}
	})
	if count < 3000 {
		t.Errorf("only %d sources", count)
	}
}

// P10.3: sources that have few blanks, and whose text is just short enough, or too long.
func TestTightSources(t *testing.T) {
	for leaves := 2; leaves <= 20; leaves++ {
		rule := "ban a 1 from 0 known 0 when x" + strings.Repeat("+x", leaves-1) + " give(y" + strings.Repeat("*y", leaves-1) + ");"
		for _, count := range []int{1, 10, 20, 2000 / (4*leaves + 10), 2000/(4*leaves+10) - 1, 100} {
			source := strings.Repeat(rule, min(100, count))
			if c, all := parser.Parse(source); len(all) == 0 {
				isPrinted(t, source, c)
			} else if !isLong(source) {
				t.Errorf("%q: %v", source, all)
			}
		}
	}
	wide := "duty x 1 from 0 known 0 give " + strings.Repeat("abcdefghijklmnop+", 19) + "1;"
	source := strings.Repeat(wide, 7999/len(wide))
	c, all := parser.Parse(source)
	if len(all) > 0 {
		t.Fatal(all)
	}
	refuse(t, api.ErrLimit, c)
}

// P10.3: all rows of up to four tokens of an alphabet that are an expression, and some longer ones.
func TestShortSources(t *testing.T) {
	alphabet := strings.Fields("a 1 0.5 money true not if then else ( ) , min < >= - * and or")
	layer, count := []string{""}, 0
	for length := 1; length <= 5; length++ {
		var next []string
		for _, before := range layer {
			for _, token := range alphabet {
				source := before + " " + token
				next = append(next, source)
				n, e, _ := parser.Expr(source)
				if e != api.OK {
					continue
				}
				count++
				text, e := printer.Expr(n)
				if e != api.OK || text != wantedExpr(n) || !isRead(text, n) {
					t.Fatalf("%q: %q, %v", source, text, e)
				}
			}
		}
		if length < 4 {
			layer = next
		} else {
			layer = slices.DeleteFunc(next, func(source string) bool { return !isBeginning(source) })
		}
	}
	if count < 1000 {
		t.Errorf("only %d expressions", count)
	}
}

// isBeginning reports whether something can follow a source.
func isBeginning(source string) bool {
	_, e, at := parser.Expr(source)
	return e == api.OK || at == len(source)
}

// P10.5: the text of by-laws consists of the texts of its facts and rules, each one alone.
func TestPartsOfTexts(t *testing.T) {
	bylaws(func(_ *rand.Rand, c api.Codex) {
		text, e := printer.Print(c)
		var want strings.Builder
		for _, d := range c.Decls {
			part, _ := printer.Print(facts(d))
			want.WriteString(part)
		}
		for _, u := range c.Rules {
			part, _ := printer.Print(rules(u))
			want.WriteString(part)
		}
		if e == api.OK && text != want.String() || e == api.ErrLimit && !isLong(want.String()) {
			t.Fatalf("%+v: got %q, %v; want %q", c, text, e, want.String())
		}
		if e == api.OK && strings.Count(text, "\n") != len(c.Decls)+len(c.Rules) {
			t.Fatalf("%q: %d facts and %d rules", text, len(c.Decls), len(c.Rules))
		}
	})
}

// P10.6: the text does not depend on the offsets, which may be any integers.
func TestOffsets(t *testing.T) {
	bylaws(func(r *rand.Rand, c api.Codex) {
		text, e := printer.Print(c)
		for range 2 {
			if other, f := printer.Print(moved(c, anywhere(r))); other != text || f != e {
				t.Fatalf("%+v: got %q, %v; with other offsets %q, %v", c, text, e, other, f)
			}
		}
	})
	r := dice()
	trees(func(n api.Node) {
		text, e := printer.Expr(n)
		if other, f := printer.Expr(movedNode(n, anywhere(r))); other != text || f != e {
			t.Fatalf("%+v: got %q, %v; with other offsets %q, %v", n, text, e, other, f)
		}
	})
}

// anyInt is any integer, often one at a bound.
func anyInt(r *rand.Rand) int {
	return pick(r, 0, 1, 2, 7, 8, 17, 18, -1, 100, 36525, 999999999, 1000000000, 1000000001, math.MaxInt, math.MinInt, int(r.Uint64()))
}

// strangeNode is an expression in which some nodes have something that they may not have.
func strangeNode(r *rand.Rand, depth int) api.Node {
	n := anyTree(r, depth)
	for range r.IntN(4) {
		place := &n
		for len(place.Kids) > 0 && r.IntN(3) > 0 {
			place = &place.Kids[r.IntN(len(place.Kids))]
		}
		switch r.IntN(7) {
		case 0:
			place.Op = anyInt(r)
		case 1:
			place.Op = r.IntN(19)
		case 2:
			place.Name = pick(r, "", "a", "true", "A", " a", "abcdefghijklmnopq", "give")
		case 3:
			place.N = api.Rat{N: anyInt(r), D: pick(r, 1, 2, 100, anyInt(r))}
		case 4:
			place.Unit = pick(r, api.Unit{}, api.Unit{Flag: true}, api.Unit{Money: 1}, api.Unit{Area: 1}, api.Unit{Days: 1}, api.Unit{Money: r.IntN(3), Days: r.IntN(2)})
		case 5:
			place.Kids = append(place.Kids, anyTree(r, 2))
		default:
			place.Kids = place.Kids[:len(place.Kids)/2]
		}
	}
	return n
}

// P10.1 and P1: any nodes, also too deep and too large ones.
func TestAnyNodes(t *testing.T) {
	r := dice()
	count := map[api.Errno]int{}
	for i := range 30000 {
		n := strangeNode(r, 1+i%11)
		text, e := printer.Expr(n)
		count[e]++
		want, f := "", api.ErrArg
		if isPrintable(n) {
			want, f = wantedExpr(n), api.OK
		}
		if text != want || e != f {
			t.Fatalf("%+v: got %q, %v; want %q, %v", n, text, e, want, f)
		}
	}
	if count[api.OK] < 1000 || count[api.ErrArg] < 1000 {
		t.Errorf("only few expressions: %v", count)
	}
}

// P10.1 and P1: by-laws in which one or more things are anything.
func TestAnyBylaws(t *testing.T) {
	r := dice()
	count := map[api.Errno]int{}
	for range 15000 {
		c := anyBylaws(r, 4, 5, 3)
		for range r.IntN(3) {
			spoilBylaws(r, &c)
		}
		_, e := isWanted(t, c)
		count[e]++
	}
	if count[api.OK] < 1000 || count[api.ErrArg] < 1000 {
		t.Errorf("only few by-laws: %v", count)
	}
}

// spoilBylaws changes something of a fact or a rule.
func spoilBylaws(r *rand.Rand, c *api.Codex) {
	text := pick(r, "", "a", "true", "A", "a ", "abcdefghijklmnopq", "fact", "a\n")
	if i := r.IntN(8); i < len(c.Decls) {
		d := &c.Decls[i]
		switch r.IntN(4) {
		case 0:
			d.Name = text
		case 1:
			d.Unit = pick(r, api.Unit{Flag: true, Days: 1}, api.Unit{Money: 2}, api.Unit{Area: 1}, api.Unit{Area: -1})
		default:
			*pick(r, &d.Lo, &d.Hi) = anyInt(r)
		}
	}
	if i := r.IntN(8); i < len(c.Rules) {
		u := &c.Rules[i]
		switch r.IntN(4) {
		case 0:
			*pick(r, &u.Name, &u.Act) = text
		case 1:
			*pick(r, &u.When, &u.Give) = strangeNode(r, 3)
		default:
			*pick(r, &u.Kind, &u.Version, &u.Days.From, &u.Days.Until, &u.Known) = anyInt(r)
		}
	}
}

// P1 and the rules: arguments stay as they are, and a call has the same result each time.
func TestNoState(t *testing.T) {
	r := dice()
	for i := range 2000 {
		c := anyBylaws(r, 3, 3, 4)
		if i%2 == 0 {
			spoilBylaws(r, &c)
		}
		same := moved(c, func() int { return 0 })
		text, e := printer.Print(c)
		if !reflect.DeepEqual(moved(c, func() int { return 0 }), same) {
			t.Fatalf("%+v became %+v", same, c)
		}
		other, f := printer.Print(anyBylaws(r, 3, 3, 4))
		if again, g := printer.Print(c); again != text || g != e {
			t.Fatalf("%+v: %q, %v, and behind %q, %v: %q, %v", c, text, e, other, f, again, g)
		}
	}
}

// P1: several calls at a time have the results of calls one behind the other.
func TestAtOneTime(t *testing.T) {
	done := make(chan bool)
	for i := range 8 {
		go func() {
			r := rand.New(rand.NewPCG(uint64(i), 1))
			is := true
			for range 200 {
				c := anyBylaws(r, 3, 3, 4)
				spoilBylaws(r, &c)
				text, e := printer.Print(c)
				want, f := wantedPrint(c)
				is = is && text == want && e == f
			}
			done <- is
		}()
	}
	for range 8 {
		if !<-done {
			t.Error("another result")
		}
	}
}

// FuzzPrint goes on with TestSources for as long as one likes: go test -fuzz FuzzPrint ./printer
func FuzzPrint(f *testing.F) {
	for _, source := range []string{"", "fact rooms: number 1 to 5; charge rent 1 from 0 known 0 give rooms * 12.50 money;", "ban b 2 about c from 1 until 36525 known 3 when (a > b) and true give 0.0;", "vote a 1 from 0 known 0 when if not a then 0.5 else (b);", "a - (b - c)", "min(1.5 number, 2)"} {
		f.Add(source)
	}
	f.Fuzz(func(t *testing.T, source string) {
		if c, all := parser.Parse(source); len(all) == 0 {
			isPrinted(t, source, c)
		}
		n, e, _ := parser.Expr(source)
		if e != api.OK {
			return
		}
		if text, e := printer.Expr(n); e != api.OK || text != wantedExpr(n) || !isRead(text, n) {
			t.Errorf("%q: %q, %v", source, text, e)
		}
	})
}
