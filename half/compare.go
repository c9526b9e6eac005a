package half

import (
	"gimlet/api"
	"gimlet/words"
)

// compared: what is known of a Some's comparison at the spot that its path has reached.
func (g *ground) compared(s *spot, x api.Expr) api.Truth {
	switch {
	case x.Attr != "":
		return ofAttrs(s.attrs, x)
	case s.open:
		return ofComing(g.came(s), x)
	}
	return ofWhole(g.came(s), x)
}

// ofAttrs: only elements have any.
func ofAttrs(attrs []api.Attr, x api.Expr) api.Truth {
	for _, a := range attrs {
		if a.Name == x.Attr {
			return ofWhole(a.Value, x)
		}
	}
	return api.False
}

// ofWhole: of a text behind which nothing comes.
func ofWhole(s string, x api.Expr) api.Truth {
	holds := true
	switch x.Compare {
	case api.Equal:
		holds = words.Compare(s, x.Text) == 0
	case api.Unequal:
		holds = words.Compare(s, x.Text) != 0
	case api.Begins:
		holds = words.Begins(s, x.Text)
	case api.Ends:
		holds = words.Ends(s, x.Text)
	case api.Contains:
		holds = words.Find(s, x.Text) >= 0
	case api.LengthIs:
		holds = words.Length(s) == x.Number
	case api.Longer:
		holds = words.Length(s) > x.Number
	case api.Shorter:
		holds = words.Length(s) < x.Number
	}
	if holds {
		return api.True
	}
	return api.False
}

// ofComing: of a text of which this has come, and more may come.
func ofComing(came string, x api.Expr) api.Truth {
	switch x.Compare {
	case api.Exists:
		return api.True
	case api.Equal:
		return knownIf(!words.Begins(x.Text, came), api.False)
	case api.Unequal:
		return knownIf(!words.Begins(x.Text, came), api.True)
	case api.Begins:
		if words.Begins(came, x.Text) {
			return api.True
		}
		return knownIf(!words.Begins(x.Text, came), api.False)
	case api.Contains:
		return knownIf(words.Find(came, x.Text) >= 0, api.True)
	case api.LengthIs:
		return knownIf(words.Length(came) > x.Number, api.False)
	case api.Longer:
		return knownIf(words.Length(came) > x.Number, api.True)
	case api.Shorter:
		return knownIf(words.Length(came) >= x.Number, api.False)
	}
	return api.Unknown // what comes last decides Ends
}

// knownIf: t where that is shown, else nothing is known.
func knownIf(shown bool, t api.Truth) api.Truth {
	if shown {
		return t
	}
	return api.Unknown
}
