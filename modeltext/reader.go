package modeltext

import (
	"strconv"
	"strings"

	"weighted/api"
	"weighted/semiring"
	"weighted/symbols"
)

// heads is the number of lines that stand in front of all others.
const heads = 3

// reader is what has been read so far. ends tells of which states the initial and of which the final weight has been read.
type reader struct {
	automaton api.Auto
	table     []string
	ends      [2][api.MaxStates]bool
	lines     int
}

// form is a form of lines: the first word, and what reads the words behind it.
type form struct {
	name string
	read func(r *reader, words []string) api.Errno
}

// readLines reads a text of any length, or returns the number of its first wrong line.
func readLines(text string) (r reader, line int, e api.Errno) {
	for full := range strings.Lines(text) {
		line++
		words := split(full)
		if len(words) == 0 {
			continue
		}
		e = r.read(words)
		if e != api.OK {
			return r, line, e
		}
	}
	if r.lines < heads {
		return r, line + 1, api.ErrSyntax
	}
	return r, 0, api.OK
}

// split returns the words of a line.
func split(line string) []string {
	line, _, _ = strings.Cut(strings.TrimSuffix(line, "\n"), "#")
	return strings.FieldsFunc(line, func(c rune) bool { return c == ' ' || c == '\t' })
}

// read reads the next line that has words.
func (r *reader) read(words []string) api.Errno {
	forms := r.forms()
	r.lines++
	for _, f := range forms {
		if f.name == words[0] {
			return f.read(r, words[1:])
		}
	}
	return api.ErrSyntax
}

// forms returns the forms that the next line may have.
func (r *reader) forms() []form {
	first := [heads]form{
		{"ring", (*reader).ring},
		{"symbols", (*reader).symbols},
		{"states", (*reader).states},
	}
	if r.lines < heads {
		return first[r.lines : r.lines+1]
	}
	return []form{
		{"initial", (*reader).initial},
		{"final", (*reader).final},
		{"arc", (*reader).arc},
	}
}

// ring reads the names of the kinds.
func (r *reader) ring(words []string) api.Errno {
	if len(words) == 0 {
		return api.ErrSyntax
	}
	ring := api.Ring{Kind: kind(words[0])}
	for _, word := range words[1:] {
		ring.Parts = append(ring.Parts, kind(word))
	}
	if !semiring.Valid(ring) {
		return api.ErrSyntax
	}
	r.automaton.Ring = ring
	return api.OK
}

// symbols reads the names of the table.
func (r *reader) symbols(words []string) api.Errno {
	if !symbols.Valid(words) {
		return api.ErrName
	}
	r.table = words
	r.automaton.Symbols = len(words)
	return api.OK
}

// states reads the number of states.
func (r *reader) states(words []string) api.Errno {
	if len(words) != 1 {
		return api.ErrSyntax
	}
	states, ok := number(words[0])
	if !ok {
		return api.ErrSyntax
	}
	if states > api.MaxStates {
		return api.ErrRange
	}
	a := &r.automaton
	a.States = states
	for range states {
		a.Initial = append(a.Initial, semiring.Zero(a.Ring))
		a.Final = append(a.Final, semiring.Zero(a.Ring))
	}
	return api.OK
}

// initial reads a state and its initial weight.
func (r *reader) initial(words []string) api.Errno {
	return r.end(words, r.automaton.Initial, &r.ends[0])
}

// final reads a state and its final weight.
func (r *reader) final(words []string) api.Errno {
	return r.end(words, r.automaton.Final, &r.ends[1])
}

// end reads a state and its weight into one of two lists.
func (r *reader) end(words []string, weights []api.Weight, read *[api.MaxStates]bool) api.Errno {
	if len(words) != 2 {
		return api.ErrSyntax
	}
	state, ok := number(words[0])
	if !ok {
		return api.ErrSyntax
	}
	if state >= r.automaton.States || read[state] {
		return api.ErrRange
	}
	w, ok := semiring.Parse(r.automaton.Ring, words[1])
	if !ok {
		return api.ErrForm
	}
	weights[state], read[state] = w, true
	return api.OK
}

// arc reads the ends, the label and the weight of an arc.
func (r *reader) arc(words []string) api.Errno {
	if len(words) != 4 {
		return api.ErrSyntax
	}
	from, fromOK := number(words[0])
	to, toOK := number(words[2])
	if !fromOK || !toOK {
		return api.ErrSyntax
	}
	a := &r.automaton
	if from >= a.States {
		return api.ErrRange
	}
	label := symbols.Find(r.table, words[1])
	if label == 0 && words[1] != symbols.Name(r.table, 0) {
		return api.ErrName
	}
	if to >= a.States {
		return api.ErrRange
	}
	w, ok := semiring.Parse(a.Ring, words[3])
	if !ok {
		return api.ErrForm
	}
	if len(a.Arcs) == api.MaxArcs {
		return api.ErrLimit
	}
	a.Arcs = append(a.Arcs, api.Arc{From: from, Label: label, To: to, Weight: w})
	return api.OK
}

// kind returns the kind with a name, or 0.
func kind(name string) int {
	for k, known := range kinds {
		if known == name {
			return k
		}
	}
	return 0
}

// number reads a number of at most four digits. Atoi reads more than that.
func number(word string) (n int, ok bool) {
	n, err := strconv.Atoi(word)
	return n, err == nil && n >= 0 && n <= 9999 && strconv.Itoa(n) == word
}
