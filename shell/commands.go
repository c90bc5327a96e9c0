package shell

import (
	"slices"
	"strconv"
	"strings"

	"relucert/api"
	"relucert/certfile"
	"relucert/claim"
	"relucert/decimal"
	"relucert/engine"
	"relucert/graph"
	"relucert/model"
	"relucert/region"
	"relucert/rows"
	"relucert/trim"
	"relucert/verify"
)

// defaultDomain is the domain of verify without counts.
const defaultDomain = 2

func options() api.Options {
	return api.Options{Domain: defaultDomain, Learn: true, Nodes: api.MaxNodes}
}

// read returns the name of a file, which is the only word of a command, and its data.
func (s *state) read(c command) (string, []byte, api.Errno) {
	name, e := c.name()
	if e != api.OK {
		return "", nil, e
	}
	at := s.find(name)
	if at < 0 {
		return "", nil, api.ErrNone
	}
	return name, s.files[at].Data, api.OK
}

func (s *state) loadModel(c command) (string, api.Errno) {
	_, data, e := s.read(c)
	if e != api.OK {
		return "", e
	}
	m, e := model.Decode(data)
	if e != api.OK {
		return "", e
	}
	g, e := verify.Graph(m)
	if e != api.OK {
		return "", e
	}
	s.model = &network{m, g}
	s.region, s.claim, s.engine = nil, nil, nil
	return "model " + strconv.Itoa(len(m.Layers)) + " layers " + strconv.Itoa(model.Params(m)) + " parameters " + strconv.Itoa(len(g.Units)) + " units", api.OK
}

func (s *state) box(c command) (string, api.Errno) {
	colon := slices.Index(c.words, ":")
	if colon < 0 {
		// Without a colon, a wrong number further left is the first error.
		if _, e := c.numbers(); e != api.OK {
			return "", e
		}
		return "", api.ErrSyntax
	}
	lo, e := parseNumbers(c.words[:colon])
	if e != api.OK {
		return "", e
	}
	hi, e := parseNumbers(c.words[colon+1:])
	if e != api.OK {
		return "", e
	}
	if s.model == nil {
		return "", api.ErrState
	}
	r, e := region.Box(lo, hi)
	if e != api.OK {
		return "", e
	}
	if len(r.Lo) != s.model.graph.Inputs {
		return "", api.ErrShape
	}
	s.region, s.engine = &r, nil
	return "region " + strconv.Itoa(len(r.Lo)) + " inputs", api.OK
}

func (s *state) cut(c command) (string, api.Errno) {
	f, e := c.form()
	if e != api.OK {
		return "", e
	}
	if s.region == nil {
		return "", api.ErrState
	}
	r := api.Region{Lo: s.region.Lo, Hi: s.region.Hi, Rows: append(slices.Clone(s.region.Rows), f)}
	if !region.Valid(r, s.model.graph.Inputs) {
		return "", api.ErrArg
	}
	s.region, s.engine = &r, nil
	return "region " + strconv.Itoa(len(r.Rows)) + " rows", api.OK
}

func (s *state) setClaim(c command) (string, api.Errno) {
	parsed, _, e := claim.Parse(c.rest)
	switch {
	case e != api.OK:
		return "", e
	case s.model == nil:
		return "", api.ErrState
	case !claim.Valid(parsed, len(s.model.graph.Outputs)):
		return "", api.ErrArg
	}
	s.claim, s.engine = &parsed, nil
	return "claim " + claim.Text(parsed), api.OK
}

func (s *state) verify(c command) (string, api.Errno) {
	counts, e := c.counts(0, 2)
	if e != api.OK {
		return "", e
	}
	if !s.hasQuestion() {
		return "", api.ErrState
	}
	o := options()
	if len(counts) > 0 {
		o.Domain = counts[0]
	}
	if len(counts) > 1 {
		o.Rule = counts[1]
	}
	v, e := verify.Verify(s.model.graph, *s.region, *s.claim, o)
	if e != api.OK {
		return "", e
	}
	switch v.Status {
	case api.Broken:
		return "broken " + strconv.Itoa(v.Goal), api.OK
	case api.Exhausted:
		return "exhausted " + strconv.Itoa(v.Goal), api.OK
	}
	v.Cert.Digest = certfile.Digest(s.model.graph, *s.region, *s.claim)
	s.cert = &v.Cert
	return "proved", api.OK
}

func (s *state) check(c command) (string, api.Errno) {
	if e := c.none(); e != api.OK {
		return "", e
	}
	if !s.hasQuestion() || s.cert == nil {
		return "", api.ErrState
	}
	if s.accepted() {
		return "accepted", api.OK
	}
	return "rejected", api.OK
}

func (s *state) trim(c command) (string, api.Errno) {
	text, e := s.check(c)
	if e != api.OK || text == "rejected" {
		return text, e
	}
	goals, _ := claim.Goals(*s.claim, len(s.model.graph.Outputs))
	trimmed := api.Cert{Digest: s.cert.Digest}
	for k, over := range goals {
		goal, _ := rows.Goal(s.model.graph, over)
		n, e := trim.Trim(api.Query{Graph: s.model.graph, Region: *s.region, Goal: goal}, s.cert.Trees[k])
		if e != api.OK {
			return "", e
		}
		trimmed.Trees = append(trimmed.Trees, n)
	}
	s.cert = &trimmed
	return "trimmed", api.OK
}

func (s *state) save(c command) (string, api.Errno) {
	name, e := c.name()
	if e != api.OK {
		return "", e
	}
	if s.cert == nil {
		return "", api.ErrState
	}
	b, e := certfile.Encode(*s.cert)
	if e != api.OK {
		return "", e
	}
	if at := s.find(name); at >= 0 {
		s.files[at].Data = b
	} else {
		s.files = append(s.files, api.File{Name: name, Data: b})
	}
	return "saved " + name, api.OK
}

func (s *state) load(c command) (string, api.Errno) {
	name, data, e := s.read(c)
	if e != api.OK {
		return "", e
	}
	cert, e := certfile.Decode(data)
	if e != api.OK {
		return "", e
	}
	s.cert = &cert
	return "loaded " + name, api.OK
}

func (s *state) outputRange(c command) (string, api.Errno) {
	f, e := c.outputForm()
	if e != api.OK {
		return "", e
	}
	if s.region == nil {
		return "", api.ErrState
	}
	i, e := verify.Range(s.model.graph, *s.region, f, options())
	if e != api.OK {
		return "", e
	}
	return "range " + decimal.Text(i.Lo) + " " + decimal.Text(i.Hi), api.OK
}

func (s *state) margin(c command) (string, api.Errno) {
	counts, e := c.counts(1, 1)
	if e != api.OK {
		return "", e
	}
	if s.region == nil {
		return "", api.ErrState
	}
	m, e := verify.Margin(s.model.graph, *s.region, counts[0], options())
	if e != api.OK {
		return "", e
	}
	return "margin " + decimal.Text(m), api.OK
}

func (s *state) eval(c command) (string, api.Errno) {
	x, e := c.numbers()
	switch {
	case e != api.OK:
		return "", e
	case s.model == nil:
		return "", api.ErrState
	case len(x) != s.model.graph.Inputs:
		return "", api.ErrShape
	}
	y, _ := graph.Outputs(s.model.graph, x)
	texts := make([]string, len(y))
	for i, n := range y {
		texts[i] = decimal.Text(n)
	}
	return "outputs " + strings.Join(texts, " "), api.OK
}

func (s *state) startEngine(c command) (string, api.Errno) {
	counts, e := c.counts(1, 1)
	if e != api.OK {
		return "", e
	}
	if !s.hasQuestion() || s.cert == nil {
		return "", api.ErrState
	}
	eng, e := engine.New(s.model.model, *s.region, *s.claim, *s.cert, counts[0])
	if e != api.OK {
		return "", e
	}
	s.engine = eng
	return "engine", api.OK
}

func (s *state) ask(c command) (string, api.Errno) {
	x, e := c.numbers()
	if e != api.OK {
		return "", e
	}
	if s.engine == nil {
		return "", api.ErrState
	}
	switch a := s.engine.Direct(x); a.Status {
	case api.AnswerProved:
		return "class " + strconv.Itoa(a.Class), api.OK
	case api.AnswerOutside:
		return "outside", api.OK
	}
	return "invalid", api.OK
}
