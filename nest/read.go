package nest

import (
	"errors"
	"slices"
	"strings"

	"gimlet/api"
)

// Why there is no event, beside the faults.
var (
	errMore = errors.New("nest: more bytes are needed")
	errOver = errors.New("nest: the document is over")
)

// read: the next tag, with the text ahead of it, becomes events. A text's events wait for the tag, which may be too deep.
func (n *Nest) read() error {
	tag, err := n.token()
	if err != nil {
		return err
	}
	var text api.Token
	if tag.Kind == api.TokenText {
		text = tag
		if tag, err = n.token(); err != nil {
			return err
		}
	}
	if tag.Kind != api.TokenClose && len(n.open) >= n.limit {
		return &api.Fault{At: lastByte(tag), Why: api.ErrDepth}
	}
	if text.Text != "" {
		n.addText(text, tag.To.Byte)
	}
	if tag.Kind != api.TokenClose {
		n.addOpen(tag)
	}
	if tag.Kind != api.TokenOpen {
		n.addClose(tag.To.Byte)
	}
	return nil
}

// token: the next one; a byte that no document goes on with is a fault.
func (n *Nest) token() (api.Token, error) {
	in, name := n.where()
	t, at, how := n.scanner.Next(in, name)
	switch how {
	case api.Wait:
		return api.Token{}, errMore
	case api.Done:
		return api.Token{}, errOver
	case api.Bad:
		return api.Token{}, &api.Fault{At: at, Why: api.ErrDocument}
	}
	return t, nil
}

// where the document is, behind the tags that were read.
func (n *Nest) where() (api.Inside, string) {
	switch {
	case len(n.open) > 0:
		return api.Within, n.open[len(n.open)-1].name
	case n.nodes > 0:
		return api.After, ""
	}
	return api.Before, ""
}

// lastByte: the place of the tag's >, which is one byte and begins no line.
func lastByte(tag api.Token) api.Place {
	p := tag.To
	p.Byte--
	p.Rune--
	p.Column--
	return p
}

// number: that of a node that begins.
func (n *Nest) number() int {
	n.nodes++
	return n.nodes - 1
}

func (n *Nest) addText(t api.Token, to int) {
	n.events = append(n.events, api.Event{Kind: api.Text, Number: n.number(), Depth: len(n.open) + 1, Text: t.Text, From: t.From.Byte, To: to})
}

func (n *Nest) addOpen(t api.Token) {
	e := element{name: t.Name, number: n.number(), from: t.From.Byte}
	n.open = append(n.open, e)
	n.events = append(n.events, api.Event{Kind: api.Open, Number: e.number, Depth: len(n.open), Name: e.name, Attrs: byName(t.Attrs), From: e.from, To: t.To.Byte})
}

func (n *Nest) addClose(to int) {
	last := len(n.open) - 1
	e := n.open[last]
	n.open[last] = element{}
	n.open = n.open[:last]
	n.events = append(n.events, api.Event{Kind: api.Close, Number: e.number, Depth: last + 1, Name: e.name, From: e.from, To: to})
}

// byName: the attributes by their names. These are characters all through, so their order by bytes is that by characters.
func byName(list []api.Attr) []api.Attr {
	slices.SortFunc(list, func(a, b api.Attr) int { return strings.Compare(a.Name, b.Name) })
	return list
}
