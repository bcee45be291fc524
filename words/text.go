package words

import (
	"slices"
	"strings"

	"weighted/api"
	"weighted/symbols"
)

// Format writes a word.
func Format(table []string, word []int) (string, api.Errno) {
	if !symbols.Valid(table) {
		return "", api.ErrName
	}
	if !Valid(word, len(table)) {
		return "", api.ErrLabels
	}
	var names []string
	for _, symbol := range word {
		names = append(names, table[symbol-1])
	}
	return strings.Join(names, " "), api.OK
}

// Parse reads a word.
func Parse(table []string, text string) ([]int, api.Errno) {
	if !symbols.Valid(table) {
		return nil, api.ErrName
	}
	if len(text) > api.MaxText {
		return nil, api.ErrLimit
	}
	var word []int
	for part := range strings.SplitSeq(text, " ") {
		if part == "" {
			continue
		}
		// symbols.Find would check the table again for each name.
		at := slices.Index(table, part)
		if at < 0 {
			return nil, api.ErrSyntax
		}
		word = append(word, at+1)
	}
	// A part that is no name comes first, wherever it stands, so that the names are counted at the end.
	if len(word) > api.MaxWord {
		return nil, api.ErrLimit
	}
	return word, api.OK
}
