package linear

import (
	"strconv"
	"strings"

	"relucert/api"
	"relucert/decimal"
	"relucert/rational"
)

// The greatest numbers of digits in a text.
const (
	numberDigits   = 200
	variableDigits = 9
)

// Text returns the text of a form.
func Text(f api.Affine) string {
	var b strings.Builder
	for _, t := range f.Terms {
		writePart(&b, t.Coef.Neg, termText(t))
	}
	if len(f.Terms) == 0 || rational.Sign(f.Const) != 0 {
		writePart(&b, f.Const.Neg, decimal.Text(absolute(f.Const)))
	}
	return b.String()
}

func absolute(x api.Rat) api.Rat { return api.Rat{Num: x.Num, Den: x.Den} }

// termText returns the text of a term without its minus sign.
func termText(t api.Term) string {
	name := "x" + strconv.Itoa(t.Var)
	if text := decimal.Text(absolute(t.Coef)); text != "1" {
		return text + "*" + name
	}
	return name
}

func writePart(b *strings.Builder, neg bool, text string) {
	switch {
	case b.Len() == 0 && neg:
		b.WriteString("-")
	case b.Len() > 0 && neg:
		b.WriteString(" - ")
	case b.Len() > 0:
		b.WriteString(" + ")
	}
	b.WriteString(text)
}

// Parse returns the form with a text, or the offset of an error.
func Parse(s string) (api.Affine, int, api.Errno) {
	p := &parser{text: s}
	if !p.form() {
		return api.Affine{}, p.at, api.ErrSyntax
	}
	f, _ := Make(p.terms, p.sum)
	return f, 0, api.OK
}

// parser is a recursive descent; its methods return false at the first byte that cannot follow, whose offset is at.
type parser struct {
	text  string
	at    int
	terms []api.Term
	sum   api.Rat
}

func (p *parser) blanks() {
	for p.at < len(p.text) && p.text[p.at] == ' ' {
		p.at++
	}
}

// accept steps over the byte c, if it is the next one.
func (p *parser) accept(c byte) bool {
	if p.at < len(p.text) && p.text[p.at] == c {
		p.at++
		return true
	}
	return false
}

// sign reads a sign, and reports whether it is a minus and whether there is one.
func (p *parser) sign() (neg, ok bool) {
	neg = p.accept('-')
	return neg, neg || p.accept('+')
}

func (p *parser) form() bool {
	p.blanks()
	neg, _ := p.sign()
	for {
		p.blanks()
		if !p.part(neg) {
			return false
		}
		p.blanks()
		if p.at == len(p.text) {
			return true
		}
		var ok bool
		if neg, ok = p.sign(); !ok {
			return false
		}
	}
}

func (p *parser) part(neg bool) bool {
	if p.at < len(p.text) && p.text[p.at] == 'x' {
		return p.variable(api.Rat{Neg: neg, Num: api.Nat{1}})
	}
	c, ok := p.number()
	if !ok {
		return false
	}
	c.Neg = neg
	p.blanks()
	if !p.accept('*') {
		p.sum = rational.Add(p.sum, c)
		return true
	}
	p.blanks()
	return p.variable(c)
}

// digits reads a number without leading zeros.
func (p *parser) digits(most int, zero bool) (string, bool) {
	start := p.at
	if zero && p.accept('0') {
		return "0", true
	}
	for p.at < len(p.text) && p.at-start < most && isDigit(p.text[p.at], p.at > start) {
		p.at++
	}
	return p.text[start:p.at], p.at > start
}

func isDigit(c byte, zero bool) bool { return c >= '1' && c <= '9' || zero && c == '0' }

func (p *parser) number() (api.Rat, bool) {
	text, ok := p.digits(numberDigits, true)
	if !ok {
		return api.Rat{}, false
	}
	p.blanks()
	if p.accept('/') {
		p.blanks()
		den, ok := p.digits(numberDigits, false)
		if !ok {
			return api.Rat{}, false
		}
		text += "/" + den
	}
	x, _, e := decimal.Parse(text)
	return x, e == api.OK
}

func (p *parser) variable(c api.Rat) bool {
	if !p.accept('x') {
		return false
	}
	text, ok := p.digits(variableDigits, true)
	if !ok {
		return false
	}
	v, err := strconv.Atoi(text)
	p.terms = append(p.terms, api.Term{Var: v, Coef: c})
	return err == nil
}
