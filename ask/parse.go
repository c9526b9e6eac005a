package ask

import "gimlet/api"

// parser goes through a query's words from the left, a function for each line of the grammar. Where no query goes on with a word it gives up by panic, which parse catches, so that no function needs to hand a fault up.
type parser struct {
	query []byte
	words []api.Word
	at    int // how many words are taken
	open  int // brackets that aren't closed, but those of text() and node()
	most  int // how many may be open
}

// parse: the path of all words; else the fault.
func (p *parser) parse() (path api.Path, err error) {
	defer func() {
		if f, ok := recover().(*api.Fault); ok {
			path, err = api.Path{}, f
		}
	}()
	var steps []api.Step
	if p.skip("//") {
		steps = append(steps, anyDepth())
	} else {
		p.skip("/")
	}
	steps, _ = p.path(steps, false)
	if p.at < len(p.words) {
		p.giveUp(api.ErrGram)
	}
	return api.Path{Steps: steps}, nil
}

// giveUp: at the next word, or at the end.
func (p *parser) giveUp(why api.Errno) {
	if p.at < len(p.words) {
		panic(&api.Fault{At: p.words[p.at].At, Why: why})
	}
	panic(fault(p.query, len(p.query), why))
}

// path: steps behind those that stand already. Where an attribute may end it, and does, its name, too.
func (p *parser) path(steps []api.Step, attrs bool) ([]api.Step, string) {
	for {
		steps = append(steps, p.step())
		if p.skip("//") {
			steps = append(steps, anyDepth())
		} else if !p.skip("/") {
			return steps, ""
		}
		if attrs && p.is("@") {
			return steps, p.attr()
		}
	}
}

func (p *parser) step() api.Step {
	if p.skip(".") {
		return here()
	}
	var step api.Step
	step.Axis = p.axis()
	step.Test, step.Name = p.test()
	for p.is("[") {
		step.Where = append(step.Where, p.within("]", p.either))
	}
	return step
}

// axis: an axis' name is a test's name where no :: is behind it.
func (p *parser) axis() api.Axis {
	for axis, name := range axes {
		if p.isName(name) && p.isSign(p.at+1, "::") {
			p.at += 2
			return api.Axis(axis)
		}
	}
	return api.Child
}

func (p *parser) test() (api.Test, string) {
	switch {
	case p.skip("*"):
		return api.AnyName, ""
	case p.calls("text"):
		p.emptyCall()
		return api.TextNode, ""
	case p.calls("node"):
		p.emptyCall()
		return api.AnyNode, ""
	}
	return api.Named, p.take(api.WordName).Text
}

// emptyCall: a name and brackets that don't count as nested.
func (p *parser) emptyCall() {
	p.at += 2
	p.need(")")
}

func (p *parser) attr() string {
	p.need("@")
	return p.take(api.WordName).Text
}

func (p *parser) either() api.Expr { return p.joined(api.Or, "or", p.both) }

func (p *parser) both() api.Expr { return p.joined(api.And, "and", p.one) }

// joined: parts with that name between them; a single one is itself.
func (p *parser) joined(op api.Op, name string, part func() api.Expr) api.Expr {
	first := part()
	if !p.isName(name) {
		return first
	}
	parts := []api.Expr{first}
	for p.isName(name) {
		p.at++
		parts = append(parts, part())
	}
	return api.Expr{Op: op, Args: parts}
}

func (p *parser) one() api.Expr {
	switch {
	case p.is("("):
		return p.within(")", p.either)
	case p.calls("not"):
		p.at++
		return api.Expr{Op: api.Not, Args: []api.Expr{p.within(")", p.either)}}
	case p.calls(lengthCall):
		p.at++
		return p.length()
	}
	for c := api.Begins; c <= api.Contains; c++ {
		if p.calls(compares[c]) {
			p.at++
			return p.search(c)
		}
	}
	x := p.some()
	if c, ok := p.compare(api.Equal, api.Unequal); ok {
		x.Compare, x.Text = c, p.take(api.WordText).Text
	}
	return x
}

// length: what stands behind the name string-length.
func (p *parser) length() api.Expr {
	x := p.within(")", p.some)
	c, ok := p.compare(api.LengthIs, api.Shorter)
	if !ok {
		p.giveUp(api.ErrGram)
	}
	x.Compare, x.Number = c, p.take(api.WordNumber).Number
	return x
}

// search: what stands behind the name of a call that compares with a text.
func (p *parser) search(c api.Compare) api.Expr {
	return p.within(")", func() api.Expr {
		x := p.some()
		p.need(",")
		x.Compare, x.Text = c, p.take(api.WordText).Text
		return x
	})
}

func (p *parser) some() api.Expr {
	x := api.Expr{Op: api.Some}
	if p.is("@") {
		x.Path.Steps, x.Attr = []api.Step{here()}, p.attr()
	} else {
		x.Path.Steps, x.Attr = p.path(nil, true)
	}
	return x
}

// compare: takes the sign of one of the comparisons from the one to the other, if one stands there.
func (p *parser) compare(from, to api.Compare) (api.Compare, bool) {
	for c := from; c <= to; c++ {
		if p.skip(compares[c]) {
			return c, true
		}
	}
	return api.Exists, false
}

// within: what part reads, between the bracket that is the next word and the last one. It is called only where a query may have that bracket, so that a bracket which is wrong there, too, is never called too deep.
func (p *parser) within(last string, part func() api.Expr) api.Expr {
	if p.open == p.most {
		p.giveUp(api.ErrDeep)
	}
	p.at++
	p.open++
	x := part()
	p.need(last)
	p.open--
	return x
}

// isSign: is the word of that number, from 0 on, that sign?
func (p *parser) isSign(number int, sign string) bool {
	return number < len(p.words) && p.words[number].Kind == api.WordSign && p.words[number].Text == sign
}

// is: is the next word that sign?
func (p *parser) is(sign string) bool { return p.isSign(p.at, sign) }

// isName: is the next word that name?
func (p *parser) isName(name string) bool {
	return p.at < len(p.words) && p.words[p.at].Kind == api.WordName && p.words[p.at].Text == name
}

// calls: is the next word that name, with a bracket behind it?
func (p *parser) calls(name string) bool { return p.isName(name) && p.isSign(p.at+1, "(") }

// skip: takes that sign, if it is the next word.
func (p *parser) skip(sign string) bool {
	ok := p.is(sign)
	if ok {
		p.at++
	}
	return ok
}

// need: takes that sign, or gives up.
func (p *parser) need(sign string) {
	if !p.skip(sign) {
		p.giveUp(api.ErrGram)
	}
}

// take: takes a word of that kind, or gives up.
func (p *parser) take(kind api.WordKind) api.Word {
	if p.at == len(p.words) || p.words[p.at].Kind != kind {
		p.giveUp(api.ErrGram)
	}
	p.at++
	return p.words[p.at-1]
}
