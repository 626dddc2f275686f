package parser_test

import (
	"math/rand/v2"
	"regexp"
	"slices"
	"strings"

	"cohousing/api"
)

// chapter is the grammar as the chapter has it.
const chapter = `
bylaws     = { fact | rule }
fact       = "fact" NAME ":" unit WHOLE "to" WHOLE ";"
rule       = kind NAME WHOLE [ "about" NAME ] "from" WHOLE [ "until" WHOLE ] "known" WHOLE
             [ "when" expr ] [ "give" expr ] ";"
kind       = "charge" | "right" | "duty" | "ban" | "rooms" | "vote" | "notice"
unit       = "flag" | "number" | "money" | "area" | "days"
expr       = "if" expr "then" expr "else" expr | or
or         = and { "or" and }
and        = not { "and" not }
not        = "not" not | comparison
comparison = sum [ ( "=" | "!=" | "<" | "<=" | ">" | ">=" ) sum ]
sum        = term { ( "+" | "-" ) term }
term       = factor { ( "*" | "/" ) factor }
factor     = NUMBER [ unit ] | NAME | "true" | "(" expr ")" | ( "min" | "max" ) "(" expr "," expr ")"
`

// reserved are the reserved words as the chapter has them.
const reserved = " about and area days else flag from give if known max min money not number or then to true until when "

// item is a part of the grammar: its sort is one of the constants below.
type item struct {
	sort  byte
	text  string
	parts []item
}

const (
	sortToken = 't' // a text in quotes, or NAME, WHOLE or NUMBER
	sortLine  = 'l' // a line of the grammar, by its name
	sortRow   = 'r' // one part after the other
	sortOne   = 'o' // one of the parts
	sortMaybe = 'm' // all parts, or nothing
	sortAny   = 'a' // all parts, as often as one likes
)

// lines are the lines of the grammar by their names.
type lines map[string]item

// theGrammar is what the chapter says.
var theGrammar = readGrammar()

func readGrammar() lines {
	all := lines{}
	begin := regexp.MustCompile(`(?m)^(\w+) += `)
	ends := append(begin.FindAllStringSubmatchIndex(chapter, -1), []int{len(chapter)})
	for i, end := range ends[1:] {
		words := strings.Fields(chapter[ends[i][1]:end[0]])
		all[chapter[ends[i][2]:ends[i][3]]], _ = readItem(words)
	}
	return all
}

// readItem reads rows with | between them, up to a closing bracket, and returns the words from this on.
func readItem(words []string) (item, []string) {
	one, row := item{sort: sortOne}, item{sort: sortRow}
	for len(words) > 0 && !strings.Contains(")]}", words[0]) {
		word := words[0]
		words = words[1:]
		part := item{sort: sortLine, text: word}
		switch {
		case word == "|":
			one.parts = append(one.parts, row)
			row = item{sort: sortRow}
			continue
		case strings.Contains("([{", word):
			var inner item
			inner, words = readItem(words)
			words = words[1:]
			part = item{sort: map[string]byte{"(": sortRow, "[": sortMaybe, "{": sortAny}[word], parts: []item{inner}}
		case word[0] == '"':
			part = item{sort: sortToken, text: strings.Trim(word, `"`)}
		case word == strings.ToUpper(word):
			part.sort = sortToken
		}
		row.parts = append(row.parts, part)
	}
	one.parts = append(one.parts, row)
	return one, words
}

// rest is what the grammar has to find behind a place: an item, and what comes behind it; nil is nothing.
type rest struct {
	first item
	then  *rest
}

// before is a row of items with what comes behind it.
func before(parts []item, then *rest) *rest {
	for _, p := range slices.Backward(parts) {
		then = &rest{p, then}
	}
	return then
}

// nexts calls a function for each token that can be next, with what comes behind it; for no token at all, the text is empty.
func nexts(all lines, from *rest, do func(text string, then *rest)) {
	if from == nil {
		do("", nil)
		return
	}
	first := from.first
	switch first.sort {
	case sortToken:
		do(first.text, from.then)
	case sortLine:
		nexts(all, &rest{all[first.text], from.then}, do)
	case sortRow:
		nexts(all, before(first.parts, from.then), do)
	case sortOne:
		for _, p := range first.parts {
			nexts(all, &rest{p, from.then}, do)
		}
	case sortMaybe:
		nexts(all, before(first.parts, from.then), do)
		nexts(all, from.then, do)
	case sortAny:
		nexts(all, before(first.parts, from), do)
		nexts(all, from.then, do)
	}
}

// isToken reports whether a token is one that the grammar has.
func isToken(text string, token api.Token) bool {
	switch text {
	case "NAME":
		return token.Kind == api.TokWord && !strings.Contains(reserved, " "+token.Text+" ")
	case "WHOLE", "NUMBER":
		return token.Kind == api.TokNumber
	}
	return token.Text == text && token.Kind != api.TokNumber
}

// walk is a way through the grammar.
type walk struct{ left *rest }

// start is a walk through a line of the grammar.
func start(line string) *walk { return &walk{&rest{first: item{sort: sortLine, text: line}}} }

// step goes on with a token, and reports as what the grammar has it; or it stays, and reports that the token cannot stand here. No token (of the kind 0) can stand where everything was found.
func (w *walk) step(token api.Token) (text string, is bool) {
	left, count := w.left, 0
	nexts(theGrammar, w.left, func(t string, then *rest) {
		if isToken(t, token) {
			text, left = t, then
			count++
		}
	})
	if count > 1 {
		panic("the grammar has more than one way")
	}
	w.left = left
	return text, count == 1
}

// can reports whether a sign can be next.
func (w *walk) can(sign string) bool {
	_, is := (&walk{w.left}).step(api.Token{Kind: api.TokPunct, Text: sign})
	return is
}

// names are those that sentences have; some of them are kinds of rules, or `fact`.
func names() []string {
	return []string{"a", "b", "c", "x_1", "persons", "fact", "charge", "right", "duty", "ban", "rooms", "vote", "notice"}
}

// numbers are whole ones and others; cents of the last ones are no valid number.
func numbers() []string {
	return []string{"0", "1", "2", "12", "007", "3.0", "4.00", "0.5", "1.25", "12.50", "999999999", "10000000.00", "9999999.99", "10000001"}
}

// sentence is a random row of texts that a line of the grammar has; where more is not asked for, rows soon end.
func sentence(r *rand.Rand, line string, more int) []string {
	var texts []string
	w := start(line)
	for {
		type way struct {
			text string
			then *rest
		}
		var ways []way
		nexts(theGrammar, w.left, func(t string, then *rest) { ways = append(ways, way{t, then}) })
		if len(texts) > more && slices.ContainsFunc(ways, func(x way) bool { return isEnding(x.text) }) {
			ways = slices.DeleteFunc(ways, func(x way) bool { return !isEnding(x.text) })
		}
		next := ways[r.IntN(len(ways))]
		switch next.text {
		case "":
			return texts
		case "NAME":
			texts = append(texts, pick(r, names()))
		case "WHOLE":
			texts = append(texts, pick(r, numbers()[:7]))
		case "NUMBER":
			texts = append(texts, pick(r, numbers()))
		default:
			texts = append(texts, next.text)
		}
		w.left = next.then
	}
}

// isEnding reports whether a token leads to the end of a sentence.
func isEnding(text string) bool {
	return slices.Contains([]string{"", ";", ")", ",", "then", "else", "NAME", "WHOLE", "true"}, text)
}

// dice are random numbers that are the same each time.
func dice() *rand.Rand { return rand.New(rand.NewPCG(9, 27)) }

// pick is one of some things.
func pick[T any](r *rand.Rand, all []T) T { return all[r.IntN(len(all))] }
