package rational

import (
	"slices"
	"strconv"
	"strings"

	"weighted/api"
)

// A chunk is the greatest group of decimal digits whose values all fit into a limb.
const (
	chunkDigits = 9
	chunkValues = 1_000_000_000
)

// Format writes a number.
func Format(x api.Rat) string {
	x = clean(x)
	var text []byte
	if x.Neg {
		text = append(text, '-')
	}
	text = appendDecimal(text, x.Num)
	if len(x.Den) > 0 {
		text = append(text, '/')
		text = appendDecimal(text, x.Den)
	}
	return string(text)
}

// Parse reads a number.
func Parse(s string) (x api.Rat, ok bool) {
	s, neg := strings.CutPrefix(s, "-")
	above, below, slash := strings.Cut(s, "/")
	num, ok := decimal(above)
	if !ok {
		return api.Rat{}, false
	}
	if !slash {
		return fraction(neg, num, nil), true
	}
	den, ok := decimal(below)
	if !ok || len(den) == 0 {
		return api.Rat{}, false
	}
	return reduced(neg, num, den), true
}

// appendDecimal appends the decimal digits of x.
func appendDecimal(text []byte, x []uint32) []byte {
	if len(x) == 0 {
		return append(text, '0')
	}
	var chunks []uint32
	for rest := slices.Clone(x); len(rest) > 0; rest = trimmed(rest) {
		chunks = append(chunks, divideLimb(rest, chunkValues))
	}
	last := len(chunks) - 1
	text = strconv.AppendUint(text, uint64(chunks[last]), 10)
	for _, chunk := range slices.Backward(chunks[:last]) {
		// The digit 1 in front of a chunk keeps its leading zeros.
		text = append(text, strconv.Itoa(chunkValues + int(chunk))[1:]...)
	}
	return text
}

// decimal reads decimal digits without leading zeros, at most MaxDigits of them.
func decimal(s string) (x []uint32, ok bool) {
	if len(s) == 0 || len(s) > api.MaxDigits || len(s) > 1 && s[0] == '0' {
		return nil, false
	}
	// Only the first chunk may be short, so that every further one has the same scale.
	for end := (len(s)-1)%chunkDigits + 1; len(s) > 0; end = chunkDigits {
		chunk, err := strconv.ParseUint(s[:end], 10, limbBits)
		if err != nil {
			return nil, false
		}
		x = appendChunk(x, chunk)
		s = s[end:]
	}
	return x, true
}

// appendChunk returns x times chunkValues + chunk, in the memory of x.
func appendChunk(x []uint32, chunk uint64) []uint32 {
	carry := chunk
	for i, v := range x {
		carry += uint64(v) * chunkValues
		x[i] = uint32(carry)
		carry >>= limbBits
	}
	if carry > 0 {
		x = append(x, uint32(carry))
	}
	return x
}
