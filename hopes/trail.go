package hopes

import (
	"slices"

	"gimlet/api"
	"gimlet/hunt"
	"gimlet/kleene"
	"gimlet/words"
)

// trail follows what one predicate compares with string values through all text that comes, for all open nodes at once. With a Hunt for each of them, a text would be gone through as often as nodes are open.
type trail struct {
	pred    int
	compare api.Compare // never Unequal nor Shorter: they are Equal and Longer, turned
	turned  bool        // whether it is asked that compare doesn't hold
	number  int
	text    []rune // the text asked for
	border  []int
	spans   []span    // of the text's beginnings, by their lengths
	ahead   api.Truth // what is known of a node of whose text nothing has come
	reached int       // how many of the text's first characters all that came ends with, the most
	found   int       // how many characters had come ahead of the text where it was found last; -1 where it wasn't
	unsure  []int     // the depths of the open nodes of which nothing is known, rising
}

// span is of a beginning of a text: the numbers of it and of all beginnings that end with it, without a gap.
type span struct {
	first, behind int
}

func newTrail(number int, pred api.Pred) *trail {
	h, _ := hunt.New(pred.Compare, pred.Text, pred.Number)
	t := &trail{pred: number, compare: pred.Compare, number: pred.Number, ahead: h.Truth(), found: -1}
	switch pred.Compare {
	case api.Unequal:
		t.compare, t.turned = api.Equal, true
	case api.Shorter:
		t.compare, t.turned, t.number = api.Longer, true, pred.Number-1
	}
	if !t.isOfLength() {
		t.text, t.border = []rune(pred.Text), words.Border(pred.Text)
		t.spans = spansOf(t.border)
	}
	return t
}

// isOfLength: it asks for no text.
func (t *trail) isOfLength() bool { return t.compare >= api.LengthIs }

// spansOf: of all beginnings of a text with these borders. Each has its numbers among those of its border, the longest shorter beginning that it ends with: so they are among those of every beginning that it ends with, and of no other.
func spansOf(border []int) []span {
	sizes := make([]int, len(border)+1) // how many beginnings end with each, itself too
	for length := len(border); length > 0; length-- {
		sizes[length]++
		sizes[border[length-1]] += sizes[length]
	}
	sizes[0]++
	spans := make([]span, len(border)+1)
	spans[0].behind = sizes[0]
	free := make([]int, len(border)+1) // in each span the first number that no beginning has yet
	free[0] = 1
	for length := 1; length <= len(border); length++ {
		below := border[length-1]
		first := free[below]
		free[below] += sizes[length]
		free[length] = first + 1
		spans[length] = span{first, first + sizes[length]}
	}
	return spans
}

// endsWith: all that came ends with so many of the text's first characters. (The text has as many.)
func (t *trail) endsWith(length int) bool {
	wanted, longest := t.spans[length], t.spans[t.reached]
	return wanted.first <= longest.first && longest.first < wanted.behind
}

// walk: a piece comes, behind so many characters. It answers, where a node's beginning is asked for, behind which of the piece's characters all that came ends with the whole text.
func (t *trail) walk(ahead int, piece string) []bool {
	if t.isOfLength() {
		return nil
	}
	var ends []bool
	for _, r := range piece {
		ahead++
		t.step(r)
		isWhole := t.reached == len(t.text)
		if isWhole {
			t.found = ahead - len(t.text)
		}
		if t.compare == api.Begins {
			ends = append(ends, isWhole)
		}
	}
	return ends
}

// step: r has come. Each step back takes away what a character ahead of it brought, so there are no more of them than characters.
func (t *trail) step(r rune) {
	for t.reached == len(t.text) || t.text[t.reached] != r {
		if t.reached == 0 {
			return
		}
		t.reached = t.border[t.reached-1]
	}
	t.reached++
}

// sift: takes out of unsure the depths at which something is known now.
func (t *trail) sift(isKnown func(depth int) bool) {
	if t.compare == api.Equal || t.compare == api.Begins {
		t.unsure = slices.DeleteFunc(t.unsure, isKnown)
		return
	}
	// What is known of the others is known of each node as soon as of any that is in it.
	for len(t.unsure) > 0 && isKnown(t.unsure[0]) {
		t.unsure = t.unsure[1:]
	}
}

// coming: what is known of an open node of whose text, which begins behind from characters, nothing was known till the last piece came.
func (t *trail) coming(from, came int, ends []bool) api.Truth {
	length := came - from
	over := length - len(t.text)
	known := api.Unknown
	switch {
	case t.compare == api.Contains && t.found >= from:
		known = api.True
	case t.compare == api.Begins && over >= 0:
		known = truth(ends[len(ends)-1-over]) // the text would have been whole over characters ahead of the end
	case (t.compare == api.Equal || t.compare == api.Begins) && (over > 0 || !t.endsWith(length)):
		known = api.False
	case t.compare == api.LengthIs && length > t.number:
		known = api.False
	case t.compare == api.Longer && length > t.number:
		known = api.True
	}
	return t.turn(known)
}

// whole: what is known of a text of so many characters that has come, and nothing was known of till its end.
func (t *trail) whole(length int) api.Truth {
	holds := false // Begins, Contains and Longer would have been known
	switch t.compare {
	case api.Equal:
		holds = length == len(t.text)
	case api.Ends:
		holds = length >= len(t.text) && t.reached == len(t.text)
	case api.LengthIs:
		holds = length == t.number
	}
	return t.turn(truth(holds))
}

func (t *trail) turn(v api.Truth) api.Truth {
	if t.turned {
		return kleene.Not(v)
	}
	return v
}
