package shell

import (
	"strconv"
	"strings"

	"relucert/api"
	"relucert/decimal"
	"relucert/linear"
)

const countDigits = 9

// command is a line without its name: the rest of the line, and its words.
type command struct {
	rest  string
	words []string
}

// splitWords returns the longest pieces without blanks. Only spaces are blanks.
func splitWords(s string) []string {
	return strings.FieldsFunc(s, func(r rune) bool { return r == ' ' })
}

// parseLine returns the name of a line, which is empty if the line has no words, and the rest.
func parseLine(line string) (string, command) {
	line = strings.TrimLeft(line, " ")
	name, rest := line, ""
	if at := strings.IndexByte(line, ' '); at >= 0 {
		name, rest = line[:at], line[at:]
	}
	return name, command{rest, splitWords(rest)}
}

// name returns the only word.
func (c command) name() (string, api.Errno) {
	if len(c.words) != 1 {
		return "", api.ErrSyntax
	}
	return c.words[0], api.OK
}

// none requires that there are no words.
func (c command) none() api.Errno {
	if len(c.words) > 0 {
		return api.ErrSyntax
	}
	return api.OK
}

// numbers returns all words as numbers, or the error of the first one that is none.
func (c command) numbers() ([]api.Rat, api.Errno) { return parseNumbers(c.words) }

func parseNumbers(words []string) ([]api.Rat, api.Errno) {
	var out []api.Rat
	for _, w := range words {
		x, _, e := decimal.Parse(w)
		if e != api.OK {
			return nil, e
		}
		out = append(out, x)
	}
	return out, api.OK
}

// counts returns all words as counts; there are from least to most.
func (c command) counts(least, most int) ([]int, api.Errno) {
	if len(c.words) < least || len(c.words) > most {
		return nil, api.ErrSyntax
	}
	var out []int
	for _, w := range c.words {
		n, err := strconv.Atoi(w)
		if err != nil || len(w) > countDigits || strconv.Itoa(n) != w || n < 0 {
			return nil, api.ErrSyntax
		}
		out = append(out, n)
	}
	return out, api.OK
}

// form returns the rest as a form.
func (c command) form() (api.Affine, api.Errno) {
	f, _, e := linear.Parse(c.rest)
	return f, e
}

// outputForm returns the rest as a form over the outputs, whose variables are written with y.
func (c command) outputForm() (api.Affine, api.Errno) {
	if strings.Contains(c.rest, "x") {
		return api.Affine{}, api.ErrSyntax
	}
	f, _, e := linear.Parse(strings.ReplaceAll(c.rest, "y", "x"))
	return f, e
}
