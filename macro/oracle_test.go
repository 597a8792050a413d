package macro_test

import (
	"math/rand"
	"regexp"
	"slices"
	"strconv"
	"strings"
	"testing"

	"linkhouse/api"
	"linkhouse/expr"
	"linkhouse/token"
)

// task is a list of lines that the oracle processes several times.
type task struct {
	lines              []api.Line
	next, times, depth int
}

// oracle expands source texts with a stack of tasks instead of recursion, and examines each line anew with regular expressions.
type oracle struct {
	stack      []task
	parameters map[string][]string
	bodies     map[string][]string
	work       int
	calls      int
	result     []api.Line
}

var (
	beforeComment = regexp.MustCompile(`^[^;]*`)
	anyWord       = regexp.MustCompile(`[^ \t]+`)
	afterWord     = regexp.MustCompile(`^[ \t]*[^ \t]*[ \t]*((?s:.*?))[ \t]*$`)
	anyPart       = regexp.MustCompile(`^[ \t]*((?s:.*?))[ \t]*$`)
)

func oracleWords(text string) []string {
	return anyWord.FindAllString(beforeComment.FindString(text), -1)
}

func oracleRest(text string) string {
	return afterWord.FindStringSubmatch(beforeComment.FindString(text))[1]
}

func oracleFirst(text string) string { return append(oracleWords(text), "")[0] }

func oracleArguments(text string) []string {
	rest := oracleRest(text)
	if rest == "" {
		return nil
	}
	parts := strings.Split(rest, ",")
	for k, part := range parts {
		parts[k] = anyPart.FindStringSubmatch(part)[1]
	}
	return parts
}

var oracleEnds = map[string]string{".macro": ".endm", ".if": ".endif", ".rept": ".endr"}

func isEnd(word string) bool { return word == ".endm" || word == ".endif" || word == ".endr" }

// count returns how many of some lines open a block, less how many close one.
func count(lines []api.Line) int {
	sum := 0
	for _, l := range lines {
		word := oracleFirst(l.Text)
		if oracleEnds[word] != "" {
			sum++
		}
		if isEnd(word) {
			sum--
		}
	}
	return sum
}

// oracleEnd returns the position of the last line of the block that a line opens, or -1.
func oracleEnd(lines []api.Line, at int) int {
	for end := at + 1; end < len(lines); end++ {
		if count(lines[at:end+1]) == 0 {
			return end
		}
	}
	return -1
}

// oracleReplace makes a line from one of a body.
func oracleReplace(text string, number int, parameters, arguments []string) string {
	made := ""
	for text != "" {
		rest, found := strings.CutPrefix(text, `\`)
		if !found {
			made, text = made+text[:1], text[1:]
			continue
		}
		if strings.HasPrefix(rest, "@") {
			made, text = made+strconv.Itoa(number), rest[1:]
			continue
		}
		longest := -1
		for k, p := range parameters {
			if strings.HasPrefix(rest, p) && (longest < 0 || len(p) > len(parameters[longest])) {
				longest = k
			}
		}
		if longest < 0 {
			made, text = made+`\`, rest
		} else {
			made, text = made+arguments[longest], rest[len(parameters[longest]):]
		}
	}
	return made
}

// oracleNumber returns the value of an expression, and the code of an error.
func oracleNumber(text string) (int, int) {
	tokens, fault := token.Split(text)
	nodes, parseFault := expr.Parse(tokens)
	if fault != none || parseFault != none {
		return 0, api.ErrSyntax
	}
	value, fault := expr.Value(nodes, nil)
	if fault != none || value != (api.Linear{Number: value.Number}) {
		return 0, api.ErrRange
	}
	return value.Number, api.OK
}

func oracleExpand(lines []string) ([]api.Line, api.Fault) {
	if len(lines) > api.MaxSource {
		return nil, failed(api.ErrTooMany, -1)
	}
	if len(strings.Join(lines, "")) > api.MaxText {
		return nil, failed(api.ErrTooLarge, -1)
	}
	var all []api.Line
	for k, text := range lines {
		all = append(all, api.Line{Text: text, From: k})
	}
	o := &oracle{parameters: map[string][]string{}, bodies: map[string][]string{}}
	o.push(all, 1, 0)
	for len(o.stack) > 0 {
		top := &o.stack[len(o.stack)-1]
		if top.next == len(top.lines) {
			if top.times--; top.times <= 0 {
				o.stack = o.stack[:len(o.stack)-1]
			}
			top.next = 0
			continue
		}
		if fault := o.line(top); fault != none {
			return nil, fault
		}
	}
	return o.result, none
}

func (o *oracle) push(lines []api.Line, times, depth int) {
	if times > 0 {
		o.stack = append(o.stack, task{lines, 0, times, depth})
	}
}

// line processes the next line of a task.
func (o *oracle) line(top *task) api.Fault {
	at := top.next
	l := top.lines[at]
	word := oracleFirst(l.Text)
	top.next++
	if o.work++; o.work > api.MaxWork {
		return failed(api.ErrTooMany, l.From)
	}
	if wanted := oracleEnds[word]; wanted != "" {
		end := oracleEnd(top.lines, at)
		if end < 0 {
			return failed(api.ErrSyntax, l.From)
		}
		if oracleFirst(top.lines[end].Text) != wanted {
			return failed(api.ErrSyntax, top.lines[end].From)
		}
		top.next = end + 1
		if code := o.block(top.lines[at:end+1], top.depth); code != api.OK {
			return failed(code, l.From)
		}
		return none
	}
	if isEnd(word) || word == ".else" {
		return failed(api.ErrSyntax, l.From)
	}
	if _, found := o.bodies[word]; found {
		if code := o.call(l, word, top.depth); code != api.OK {
			return failed(code, l.From)
		}
		return none
	}
	if o.result = append(o.result, l); len(o.result) > api.MaxSource {
		return failed(api.ErrTooMany, l.From)
	}
	return none
}

// block deals with a block.
func (o *oracle) block(lines []api.Line, depth int) int {
	inner, words := lines[1:len(lines)-1], oracleWords(lines[0].Text)
	if words[0] == ".macro" {
		return o.define(words[1:], inner)
	}
	number, code := oracleNumber(oracleRest(lines[0].Text))
	if code != api.OK {
		return code
	}
	if words[0] == ".rept" {
		if number < 0 || number > api.MaxSource {
			return api.ErrRange
		}
		o.push(inner, number, depth)
		return api.OK
	}
	division := len(inner)
	for k := len(inner) - 1; k >= 0; k-- {
		if oracleFirst(inner[k].Text) == ".else" && count(inner[:k]) == 0 {
			division = k
		}
	}
	if number != 0 {
		o.push(inner[:division], 1, depth)
	} else if division < len(inner) {
		o.push(inner[division+1:], 1, depth)
	}
	return api.OK
}

func (o *oracle) define(names []string, inner []api.Line) int {
	if len(names) == 0 {
		return api.ErrName
	}
	seen := map[string]bool{}
	for _, name := range names {
		if !token.IsName(name) {
			return api.ErrName
		}
	}
	for _, name := range names[1:] {
		if seen[name] {
			return api.ErrExists
		}
		seen[name] = true
	}
	if _, found := o.bodies[names[0]]; found {
		return api.ErrExists
	}
	if names[0][0] == '.' {
		return api.ErrName
	}
	body := []string{}
	for _, l := range inner {
		body = append(body, l.Text)
	}
	o.parameters[names[0]], o.bodies[names[0]] = names[1:], body
	return api.OK
}

func (o *oracle) call(l api.Line, word string, depth int) int {
	arguments := oracleArguments(l.Text)
	if len(arguments) != len(o.parameters[word]) {
		return api.ErrLength
	}
	if depth >= api.MaxDepth {
		return api.ErrCycle
	}
	o.calls++
	var lines []api.Line
	for _, text := range o.bodies[word] {
		text = oracleReplace(text, o.calls, o.parameters[word], arguments)
		if len(text) > api.MaxText {
			return api.ErrTooLarge
		}
		lines = append(lines, api.Line{Text: text, From: l.From})
	}
	o.push(lines, 1, depth+1)
	return api.OK
}

// compare expands a source text with the oracle too.
func compare(t *testing.T, lines []string) api.Fault {
	t.Helper()
	want, fault := oracleExpand(lines)
	if fault != none {
		want = nil
	}
	expect(t, lines, want, fault)
	return fault
}

// TestShortTexts compares all source texts of up to four lines from a list of the most important ones.
func TestShortTexts(t *testing.T) {
	pieces := []string{".macro m a", ".macro n", ".endm", ".if 1", ".if 0", ".else", ".endif", ".rept 2", ".endr", "m", "m x", "n", `\a\@`, `.if \@`, ".macro .m", "a"}
	var extend func(lines []string, left int)
	extend = func(lines []string, left int) {
		compare(t, lines)
		if left == 0 {
			return
		}
		for _, piece := range pieces {
			extend(append(lines[:len(lines):len(lines)], piece), left-1)
		}
	}
	extend(nil, 4)
}

// randomLine returns a line that is a call, a part of a block that stands alone, or another line.
func randomLine(r *rand.Rand) string {
	pieces := []string{"m x", "n \\a", "k 1, 2", "k \\a, \\b", "m \\@", "k ,", "\\a", "\\b", "\\ab \\a", "\\@ \\\\", "x\\@: y", "a ; \\b", "", "; .endif", "n 0", "n 1", "\\a \\b", "\\a, \\b", "m \\b-1", " n\t\\a\t", "m n", "n m", "m n 1", "n m 2", "n k 3, 4"}
	rare := []string{"n .else", "n .endr", "m", "n", "k", "k a", "m x, y", ".else", ".endif", ".endm", ".endr", ".if 1", ".rept 2", ".macro k", "n .if 1", "n .macro k", "\\a 1", "."}
	if r.Intn(60) == 0 {
		return rare[r.Intn(len(rare))]
	}
	return pieces[r.Intn(len(pieces))]
}

// randomLines returns lines with blocks, most of which are right.
func randomLines(r *rand.Rand, size, nested int) []string {
	var l []string
	for range size {
		if nested == 0 || r.Intn(5) > 0 {
			l = append(l, randomLine(r))
			continue
		}
		inner := randomLines(r, r.Intn(4), nested-1)
		if r.Intn(3) == 0 {
			inner = slices.Concat(inner, []string{".else"}, randomLines(r, r.Intn(3), nested-1))
		}
		heads := []string{".if 1", ".if 0", ".if \\@ & 1", ".if \\a", ".rept 2", ".rept 0", ".rept \\b", ".rept \\@ % 4", ".rept 99", ".rept 200 + \\@", ".macro k\\@ a", ".macro k\\@ b", ".macro \\a b"}
		if r.Intn(60) == 0 {
			heads = []string{".if x", ".if", ".rept -1", ".macro", ".macro .m", ".macro m a a", ".rept 1 2"}
		}
		head := heads[r.Intn(len(heads))]
		word, _, _ := strings.Cut(head, " ")
		l = slices.Concat(l, []string{head}, inner, []string{oracleEnds[word]})
	}
	return l
}

// TestRandomTexts compares random source texts, with definitions at their beginning.
func TestRandomTexts(t *testing.T) {
	r := rand.New(rand.NewSource(7))
	faults := map[int]int{}
	for range 10000 {
		definitions := []string{".macro m a", ".endm", ".macro n a", "\\a", ".endm", ".macro k a b", ".endm"}
		first, last := randomLines(r, r.Intn(3), 1), randomLines(r, r.Intn(4), 2)
		lines := slices.Concat(definitions[:1], first, definitions[1:6], last, definitions[6:], randomLines(r, 1+r.Intn(7), 2))
		faults[compare(t, lines).Code]++
	}
	for _, code := range []int{api.OK, api.ErrSyntax, api.ErrTooMany, api.ErrName, api.ErrExists, api.ErrRange, api.ErrLength, api.ErrCycle} {
		if faults[code] < 10 {
			t.Errorf("the code %d has occurred %d times only", code, faults[code])
		}
	}
}

// TestRandomBytes compares source texts of random bytes.
func TestRandomBytes(t *testing.T) {
	r := rand.New(rand.NewSource(8))
	parts := []string{"m", " ", "\t", ",", ";", "\\", "@", "a", "b", "ab", ".if", ".macro m ", "1", "\n", "\xff", "ä"}
	for range 10000 {
		lines := []string{".macro m a b", randomText(r, parts), ".endm"}
		for range r.Intn(3) {
			lines = append(lines, randomText(r, parts))
		}
		compare(t, append(lines, "m "+randomText(r, parts)+","+randomText(r, parts)))
	}
}

// randomText returns some parts, one after the other.
func randomText(r *rand.Rand, parts []string) string {
	text := ""
	for range r.Intn(8) {
		text += parts[r.Intn(len(parts))]
	}
	return text
}
