package claim

import (
	"strconv"
	"strings"

	"relucert/api"
	"relucert/linear"
	"relucert/rational"
)

const (
	topWord    = "top"
	marginWord = "margin"
)

// Text returns the text of a claim.
func Text(c api.Claim) string {
	if !Valid(c, api.MaxOutputs) {
		return ""
	}
	text := topWord + " " + strconv.Itoa(c.Target)
	if c.Kind == api.ClaimRows {
		var rows []string
		for _, f := range c.Rows {
			rows = append(rows, strings.ReplaceAll(linear.Text(f), "x", "y")+" >= 0")
		}
		text = strings.Join(rows, "; ")
	}
	if rational.Sign(c.Margin) != 0 {
		text += " " + marginWord + " " + linear.Text(api.Affine{Const: c.Margin})
	}
	return text
}

// Parse returns the claim with a text, or the offset of an error.
func Parse(s string) (api.Claim, int, api.Errno) {
	body, margin, behind := s, "0", 0
	if at := strings.LastIndex(s, marginWord); at >= 0 {
		behind = at + len(marginWord)
		body, margin = s[:at], s[behind:]
	}
	c, at, ok := parseBody(body)
	if !ok {
		return api.Claim{}, at, api.ErrSyntax
	}
	f, _, e := linear.Parse(margin)
	if e != api.OK || strings.ContainsAny(margin, "xy") {
		return api.Claim{}, behind, api.ErrSyntax
	}
	c.Margin = f.Const
	if !Valid(c, api.MaxOutputs) {
		return api.Claim{}, 0, api.ErrArg
	}
	return c, 0, api.OK
}

// parseBody returns a claim without its margin, or the offset of an error and false.
func parseBody(s string) (api.Claim, int, bool) {
	if text := strings.Trim(s, " "); strings.HasPrefix(text, topWord) {
		target, ok := parseTop(text[len(topWord):])
		return api.Claim{Kind: api.ClaimTop, Target: target}, 0, ok
	}
	c := api.Claim{Kind: api.ClaimRows}
	start := 0
	for row := range strings.SplitSeq(s, ";") {
		f, at, ok := parseRow(row)
		if !ok {
			return api.Claim{}, start + at, false
		}
		c.Rows = append(c.Rows, f)
		start += len(row) + 1
	}
	return c, 0, true
}

// parseTop reads blanks and a number without leading zeros.
func parseTop(s string) (int, bool) {
	digits := strings.TrimLeft(s, " ")
	if digits == s || len(digits) > 9 || strings.Trim(digits, "0123456789") != "" || len(digits) > 1 && digits[0] == '0' {
		return 0, false
	}
	n, err := strconv.Atoi(digits)
	return n, err == nil
}

// parseRow returns the form that an inequality states to be at least 0, or the offset of an error and false.
func parseRow(s string) (api.Affine, int, bool) {
	at := strings.Index(s, ">=")
	less := strings.Index(s, "<=")
	reversed := less >= 0 && (at < 0 || less < at)
	if reversed {
		at = less
	}
	if at < 0 {
		return api.Affine{}, 0, false
	}
	a, ok := parseForm(s[:at])
	if !ok {
		return api.Affine{}, 0, false
	}
	b, ok := parseForm(s[at+2:])
	if !ok {
		return api.Affine{}, at + 2, false
	}
	if reversed {
		a, b = b, a
	}
	return linear.Sub(a, b), 0, true
}

func parseForm(s string) (api.Affine, bool) {
	if strings.Contains(s, "x") {
		return api.Affine{}, false
	}
	f, _, e := linear.Parse(strings.ReplaceAll(s, "y", "x"))
	return f, e == api.OK
}
