package nest_test

import (
	"errors"
	"fmt"
	"reflect"
	"slices"
	"strings"
	"testing"
	"time"

	"gimlet/api"
	"gimlet/nest"
	"gimlet/runes"
)

// show: events as the chapter writes them: kind, number, depth, name or text, attributes, From, To.
func show(list []api.Event) string {
	var lines []string
	for _, e := range list {
		s := fmt.Sprintf("%s %d %d %s", []string{"Open", "Text", "Close"}[e.Kind], e.Number, e.Depth, e.Name+e.Text)
		for _, a := range e.Attrs {
			s += " " + a.Name + "=" + a.Value
		}
		lines = append(lines, fmt.Sprintf("%s %d %d", s, e.From, e.To))
	}
	return strings.Join(lines, "; ")
}

// needMade: a Nest of that limit.
func needMade(t *testing.T, depth int) *nest.Nest {
	t.Helper()
	n, e := nest.New(depth)
	if n == nil || e != api.OK {
		t.Fatalf("P7.1: New(%d): %v %d", depth, n, e)
	}
	return n
}

func needPushed(t *testing.T, n *nest.Nest, s string) {
	t.Helper()
	if e := n.Push([]byte(s)); e != api.OK {
		t.Fatalf("P7.1: Push(%q): %d", s, e)
	}
}

func needEnded(t *testing.T, n *nest.Nest) {
	t.Helper()
	if e := n.End(); e != api.OK {
		t.Fatalf("P7.1: End: %d", e)
	}
}

// drain: all events that are there, and what comes behind them.
func drain(t *testing.T, n *nest.Nest) ([]api.Event, api.How, *api.Fault) {
	t.Helper()
	var list []api.Event
	for {
		e, how, f := n.Next()
		if how != api.Have {
			if !reflect.DeepEqual(e, api.Event{}) || (f != nil) != (how == api.Bad) {
				t.Fatalf("P7.2: beside %d: %+v, %v", how, e, f)
			}
			return list, how, f
		}
		if f != nil {
			t.Fatalf("P7.2: a fault beside Have: %v", f)
		}
		list = append(list, e)
	}
}

// sound: there is no fault.
const sound = api.OK

func TestEvents(t *testing.T) {
	for _, r := range []struct {
		d     string
		depth int
		want  string
		why   api.Errno
		at    int
	}{
		// The chapter's examples.
		{"<a>x<b/>y</a>", 9, "Open 0 1 a 0 3; Text 1 2 x 3 8; Open 2 2 b 4 8; Close 2 2 b 4 8; Text 3 2 y 8 13; Close 0 1 a 0 13", sound, 0},
		{"<a><!--c-->x<![CDATA[y]]>&#65;</a>", 9, "Open 0 1 a 0 3; Text 1 2 xyA 11 34; Close 0 1 a 0 34", sound, 0},
		{"<a y=\"1\" x='2'/>", 9, "Open 0 1 a x=2 y=1 0 16; Close 0 1 a 0 16", sound, 0},
		{"<a></b>", 9, "Open 0 1 a 0 3", api.ErrDocument, 5},
		{"<a>", 9, "Open 0 1 a 0 3", api.ErrDocument, 3},
		{"", 9, "", api.ErrDocument, 0},
		{"<a/><", 9, "Open 0 1 a 0 4; Close 0 1 a 0 4", api.ErrDocument, 5},
		{"<a/>x", 9, "Open 0 1 a 0 4; Close 0 1 a 0 4", api.ErrDocument, 4},
		{"<a>x<b/></a>", 1, "Open 0 1 a 0 3", api.ErrDepth, 7},
		{"<a/>", 0, "", api.ErrDepth, 3},
		// DOC.md's examples.
		{"<a b='' b", 9, "", api.ErrDocument, 9},
		{"<a b='' b=", 9, "", api.ErrDocument, 9},
		{"<a>&#xD800;", 9, "Open 0 1 a 0 3", api.ErrDocument, 10},
		{"\x3C\x61\x3E\xC3\x28", 9, "Open 0 1 a 0 3", api.ErrDocument, 4},
		// Numbers, depths and places of what lies in one another; one name at several depths.
		{"<a><a>1<a/>2</a>3</a>", 9, "Open 0 1 a 0 3; Open 1 2 a 3 6; Text 2 3 1 6 11; Open 3 3 a 7 11; Close 3 3 a 7 11; Text 4 3 2 11 16; Close 1 2 a 3 16; Text 5 2 3 16 21; Close 0 1 a 0 21", sound, 0},
		{" \n<!--é--><é\tb=''\n>\r\n<c></c ></é\r\n>\r<!---->", 9, "Open 0 1 é b= 11 21; Text 1 2 \n 21 26; Open 2 2 c 23 26; Close 2 2 c 23 31; Close 0 1 é 11 38", sound, 0},
		// A text is one, whatever parts it; where it has no characters there is none; it begins with its first character.
		{"<a><![CDATA[]]><!----></a>", 9, "Open 0 1 a 0 3; Close 0 1 a 0 26", sound, 0},
		{"<a><![CDATA[]]><![CDATA[x]]><!---->y</a>", 9, "Open 0 1 a 0 3; Text 1 2 xy 15 40; Close 0 1 a 0 40", sound, 0},
		{"<a><!---->&#13;\r</a>", 9, "Open 0 1 a 0 3; Text 1 2 \r\n 10 20; Close 0 1 a 0 20", sound, 0},
		// One root, and nothing but blanks and comments around it.
		{"<a/><b/>", 9, "Open 0 1 a 0 4; Close 0 1 a 0 4", api.ErrDocument, 5},
		{"<a></a></a>", 9, "Open 0 1 a 0 3; Close 0 1 a 0 7", api.ErrDocument, 8},
		{"<a/>&#32;", 9, "Open 0 1 a 0 4; Close 0 1 a 0 4", api.ErrDocument, 4},
		{"<a/><![CDATA[]]>", 9, "Open 0 1 a 0 4; Close 0 1 a 0 4", api.ErrDocument, 6},
		{"<a/><!-- -->\n <!", 9, "Open 0 1 a 0 4; Close 0 1 a 0 4", api.ErrDocument, 16},
		{"<a/> \xC2\xA0", 9, "Open 0 1 a 0 4; Close 0 1 a 0 4", api.ErrDocument, 5},
		{"</a>", 9, "", api.ErrDocument, 1},
		{"x<a/>", 9, "", api.ErrDocument, 0},
		{" <!-- -->", 9, "", api.ErrDocument, 9},
		{"\xEF\xBB\xBF<a/>", 9, "", api.ErrDocument, 0},
		// End tags fit the element that was opened last.
		{"<a><b></a></b>", 9, "Open 0 1 a 0 3; Open 1 2 b 3 6", api.ErrDocument, 8},
		{"<a><b/></b>", 9, "Open 0 1 a 0 3; Open 1 2 b 3 7; Close 1 2 b 3 7", api.ErrDocument, 9},
		{"<ab></a>", 9, "Open 0 1 ab 0 4", api.ErrDocument, 7},
		{"<a></ab>", 9, "Open 0 1 a 0 3", api.ErrDocument, 6},
		{"<a>x</b>", 9, "Open 0 1 a 0 3", api.ErrDocument, 6},
		// The limit: nothing of a tag that is too deep is told, not even the text ahead; what is no document comes first at its byte.
		{"<a>x<b>", 1, "Open 0 1 a 0 3", api.ErrDepth, 6},
		{"<a>x<b", 1, "Open 0 1 a 0 3", api.ErrDocument, 6},
		{"<a>x<b/", 1, "Open 0 1 a 0 3", api.ErrDocument, 7},
		{"<a>x<b c='' c='' >", 1, "Open 0 1 a 0 3", api.ErrDocument, 13},
		{"<a>x</b>", 1, "Open 0 1 a 0 3", api.ErrDocument, 6},
		{"<a>x</a>", 1, "Open 0 1 a 0 3; Text 1 2 x 3 8; Close 0 1 a 0 8", sound, 0},
		{"<a><b/>x<c><d/></c></a>", 2, "Open 0 1 a 0 3; Open 1 2 b 3 7; Close 1 2 b 3 7; Text 2 2 x 7 11; Open 3 2 c 8 11", api.ErrDepth, 14},
		{"<a>", 0, "", api.ErrDepth, 2},
		{" <!-- --><a b='>'\n>\x00", 0, "", api.ErrDepth, 18},
		{"x", 0, "", api.ErrDocument, 0},
		{"<a>\x00", 0, "", api.ErrDepth, 2},
	} {
		list, err := nest.Events([]byte(r.d), r.depth)
		if got := show(list); got != r.want {
			t.Errorf("P7.4, P7.6: Events(%q, %d): %s, want %s", r.d, r.depth, got, r.want)
		}
		if r.why == sound {
			if err != nil {
				t.Errorf("P7.6: Events(%q, %d): %v", r.d, r.depth, err)
			}
			continue
		}
		needFault(t, r.d, err, r.why, r.at)
	}
}

// needFault: the error is that fault, at the place of that byte, and nothing else.
func needFault(t *testing.T, d string, err error, why api.Errno, at int) {
	t.Helper()
	var f *api.Fault
	if !errors.As(err, &f) || !errors.Is(err, why) || errors.Is(err, api.ErrDepth) != (why == api.ErrDepth) || errors.Is(err, api.ErrDocument) != (why == api.ErrDocument) {
		t.Fatalf("P7.3, P7.6: %q: %v", d, err)
	}
	if want, _ := runes.At([]byte(d), at); f.Why != why || f.At != want {
		t.Errorf("P7.3: %q: %d at %v, want %d at %v", d, f.Why, f.At, why, want)
	}
}

func TestRange(t *testing.T) {
	for _, depth := range []int{-1, -9, -1 << 63} {
		if n, e := nest.New(depth); n != nil || e != api.ErrRange {
			t.Errorf("P7.1: New(%d): %v %d", depth, n, e)
		}
		for _, d := range []string{"", "x", "<a/>"} {
			if list, err := nest.Events([]byte(d), depth); len(list) > 0 || err != api.ErrRange {
				t.Errorf("P7.6: Events(%q, %d): %v %v", d, depth, list, err)
			}
		}
	}
}

// nested: so many elements in one another.
func nested(depth int) string {
	return strings.Repeat("<a>", depth) + strings.Repeat("</a>", depth)
}

func TestLimits(t *testing.T) {
	for _, r := range []struct {
		depth, limit int
		fits         bool
	}{
		{1, 0, false}, {1, 1, true}, {1, 2, true}, {7, 6, false}, {7, 7, true}, {7, 8, true},
		{api.MaxDepth, api.MaxDepth - 1, false}, {api.MaxDepth, api.MaxDepth, true}, {api.MaxDepth, api.MaxDepth + 1, true}, {api.MaxDepth, 1<<63 - 1, true},
		{api.MaxDepth + 1, api.MaxDepth, false}, {api.MaxDepth + 1, api.MaxDepth + 1, false}, {api.MaxDepth + 1, 1<<63 - 1, false},
	} {
		d := nested(r.depth)
		list, err := nest.Events([]byte(d), r.limit)
		switch {
		case !r.fits:
			limit := min(r.limit, api.MaxDepth)
			needFault(t, d, err, api.ErrDepth, 3*limit+2)
			if len(list) != limit {
				t.Errorf("P7.1: depth %d, limit %d: %d events", r.depth, r.limit, len(list))
			}
		case err != nil || len(list) != 2*r.depth || list[r.depth-1].Depth != r.depth:
			t.Errorf("P7.1: depth %d, limit %d: %v, %d events", r.depth, r.limit, err, len(list))
		}
	}
	// Elements that are closed don't count.
	d := "<r>" + strings.Repeat("<a></a><b/>", 50) + "</r>"
	if list, err := nest.Events([]byte(d), 2); err != nil || len(list) != 202 {
		t.Errorf("P7.3: %v, %d events", err, len(list))
	}
}

// TestPieces: the chapter's examples 6 and 7, and more: behind each piece the events, what comes then, and the depth.
func TestPieces(t *testing.T) {
	type piece struct {
		push, want string
		how        api.How
		depth      int
	}
	for _, r := range []struct {
		limit  int
		pieces []piece
		end    api.How
		why    api.Errno
		at     int
	}{
		{9, []piece{{"<a>", "Open 0 1 a 0 3", api.Wait, 1}, {"x</a", "", api.Wait, 1}, {">", "Text 1 2 x 3 8; Close 0 1 a 0 8", api.Wait, 0}}, api.Done, 0, 0},
		{9, []piece{{"<a x=\"1\" x", "", api.Wait, 0}, {"=", "", api.Bad, 0}, {"'2'/>", "", api.Bad, 0}}, api.Bad, api.ErrDocument, 10},
		{9, []piece{{"<a x=\"1\" x", "", api.Wait, 0}, {"y=''", "", api.Wait, 0}, {"/>", "Open 0 1 a x=1 xy= 0 16; Close 0 1 a 0 16", api.Wait, 0}}, api.Done, 0, 0},
		{9, []piece{{"<a><b/>x", "Open 0 1 a 0 3; Open 1 2 b 3 7; Close 1 2 b 3 7", api.Wait, 1}, {"\x01</a>", "", api.Bad, 1}, {"</a>", "", api.Bad, 1}}, api.Bad, api.ErrDocument, 8},
		{1, []piece{{"<a>x<b ", "Open 0 1 a 0 3", api.Wait, 1}, {"><c></c></b></a>", "", api.Bad, 1}, {"\x00", "", api.Bad, 1}}, api.Bad, api.ErrDepth, 7},
		{9, []piece{{"", "", api.Wait, 0}, {" <!-", "", api.Wait, 0}, {"- --", "", api.Wait, 0}, {">", "", api.Wait, 0}}, api.Bad, api.ErrDocument, 9},
		{9, []piece{{"<a/>", "Open 0 1 a 0 4; Close 0 1 a 0 4", api.Wait, 0}, {"\xC3", "", api.Bad, 0}}, api.Bad, api.ErrDocument, 4},
		{9, []piece{{"<a>\xC3", "Open 0 1 a 0 3", api.Wait, 1}, {"\xA9</a>\r", "Text 1 2 é 3 9; Close 0 1 a 0 9", api.Wait, 0}, {"\n<!----", "", api.Wait, 0}, {">", "", api.Wait, 0}}, api.Done, 0, 0},
	} {
		n := needMade(t, r.limit)
		all := ""
		for _, p := range r.pieces {
			needPushed(t, n, p.push)
			all += p.push
			list, how, f := drain(t, n)
			if show(list) != p.want || how != p.how || n.Depth() != p.depth {
				t.Errorf("P7.2, P7.5: %q: %s, %d, depth %d; want %s, %d, %d", all, show(list), how, n.Depth(), p.want, p.how, p.depth)
			}
			if how == api.Bad {
				needFault(t, all, f, r.why, r.at)
			}
		}
		needEnded(t, n)
		for range 3 {
			list, how, f := drain(t, n)
			if len(list) > 0 || how != r.end {
				t.Errorf("P7.2: %q, behind the end: %s, %d, want %d", all, show(list), how, r.end)
			}
			if how == api.Bad {
				needFault(t, all, f, r.why, r.at)
			}
		}
	}
}

// TestDepth: by the events that Next has answered, not by those that are there.
func TestDepth(t *testing.T) {
	n := needMade(t, 9)
	needPushed(t, n, "<a>x<b/><c>y</c></a>\x00")
	if n.Depth() != 0 {
		t.Errorf("P7.5: ahead of all events: %d", n.Depth())
	}
	for i, want := range []int{1, 1, 2, 1, 2, 2, 1, 0} {
		if _, how, _ := n.Next(); how != api.Have || n.Depth() != want {
			t.Errorf("P7.5: behind event %d: %d, depth %d, want %d", i, how, n.Depth(), want)
		}
	}
	for range 2 {
		if _, how, _ := n.Next(); how != api.Bad || n.Depth() != 0 {
			t.Errorf("P7.5: behind the fault: %d, depth %d", how, n.Depth())
		}
	}
	n = needMade(t, 2)
	needPushed(t, n, "<a><b>x<c/>")
	if list, how, _ := drain(t, n); len(list) != 2 || how != api.Bad || n.Depth() != 2 {
		t.Errorf("P7.5: %s, %d, depth %d", show(list), how, n.Depth())
	}
}

// TestAttrs: by name, whatever their order in the tag, and characters by their numbers.
func TestAttrs(t *testing.T) {
	names := []string{"A", "_", "a", "a-", "a.", "aa", "b", "é", "\uFFFD", "\U00010000"}
	want := make([]api.Attr, len(names))
	for i, name := range names {
		want[i] = api.Attr{Name: name, Value: fmt.Sprint(i)}
	}
	for skip := range len(names) {
		// Each order of four names that stand behind one another here.
		some := append(slices.Clone(want[skip:]), want[:skip]...)[:4]
		sorted := slices.Clone(some)
		slices.SortFunc(sorted, func(a, b api.Attr) int { return slices.Compare([]rune(a.Name), []rune(b.Name)) })
		for _, order := range orders(some) {
			list, err := nest.Events([]byte(tagOf(order)), 1)
			if err != nil || len(list) != 2 || !slices.Equal(list[0].Attrs, sorted) || list[1].Attrs != nil {
				t.Fatalf("P7.4: %s: %s, %v", tagOf(order), show(list), err)
			}
		}
	}
	back := slices.Clone(want)
	slices.Reverse(back)
	list, err := nest.Events([]byte(tagOf(back)), 1)
	if err != nil || !slices.Equal(list[0].Attrs, want) {
		t.Errorf("P7.4: %s, %v", show(list), err)
	}
	for _, d := range []string{"<a b='' c='' b", "<a c='' b='' b", "<a é='' a='' é"} {
		for _, behind := range []string{"=''/>", " =''/>", "\r", "/>"} {
			_, err := nest.Events([]byte(d+behind), 1)
			needFault(t, d+behind, err, api.ErrDocument, len(d))
		}
	}
}

// tagOf: an empty tag with these attributes.
func tagOf(list []api.Attr) string {
	s := "<a"
	for _, a := range list {
		s += " " + a.Name + "='" + a.Value + "'"
	}
	return s + "/>"
}

// orders: all of them.
func orders(list []api.Attr) [][]api.Attr {
	if len(list) == 0 {
		return [][]api.Attr{nil}
	}
	var all [][]api.Attr
	for i := range list {
		others := append(slices.Clone(list[:i]), list[i+1:]...)
		for _, o := range orders(others) {
			all = append(all, append(o, list[i]))
		}
	}
	return all
}

// TestBehindTheEnd: P7.1 and P7.2 of what is called once all is told.
func TestBehindTheEnd(t *testing.T) {
	for _, r := range []struct {
		d    string
		want int
		how  api.How
	}{{"<a>x</a>", 3, api.Done}, {"<a>x</a> ", 3, api.Done}, {"<a>x", 1, api.Bad}, {"", 0, api.Bad}, {"<a>x</b>", 1, api.Bad}, {"<a><b/></a>", 1, api.Bad}} {
		n := needMade(t, 1)
		needPushed(t, n, r.d)
		needEnded(t, n)
		// The end and bytes behind it are refused ahead of all events and behind them; neither changes anything.
		refused := func() {
			t.Helper()
			if e := n.Push([]byte("<a/>")); e != api.ErrEnded {
				t.Errorf("P7.1: %q: Push behind the end: %d", r.d, e)
			}
			if e := n.Push(nil); e != api.ErrEnded {
				t.Errorf("P7.1: %q: Push of nothing behind the end: %d", r.d, e)
			}
			if e := n.End(); e != api.ErrEnded {
				t.Errorf("P7.1: %q: End behind the end: %d", r.d, e)
			}
		}
		refused()
		list, how, first := drain(t, n)
		if len(list) != r.want || how != r.how {
			t.Errorf("P7.2: %q: %s, %d", r.d, show(list), how)
		}
		for range 3 {
			refused()
			_, again, f := n.Next()
			if again != how || f != nil && *f != *first {
				t.Errorf("P7.2: %q: %d %v, then %d %v", r.d, how, first, again, f)
			}
		}
	}
}

// TestBehindBad: bytes behind a fault are taken, and never looked at; the end too.
func TestBehindBad(t *testing.T) {
	for _, d := range []string{"x", "<a>\x00", "<a><b/>", "<a/>x", "<a></b"} {
		n := needMade(t, 1)
		needPushed(t, n, d)
		list, how, first := drain(t, n)
		if how != api.Bad {
			t.Fatalf("P7.3: %q: %s, %d", d, show(list), how)
		}
		kept := *first
		depth := n.Depth()
		for _, more := range []string{"", "</a>", "<a/>", "\xFF"} {
			needPushed(t, n, more)
			// A fault that was answered is the caller's.
			*first = api.Fault{At: api.Place{Byte: -5}, Why: api.ErrNil}
			var f *api.Fault
			if _, how, f = n.Next(); how != api.Bad || f == first || *f != kept || n.Depth() != depth {
				t.Errorf("P7.2: %q, then %q: %d %v, depth %d", d, more, how, f, n.Depth())
			}
			first = f
		}
		needEnded(t, n)
		if n.End() != api.ErrEnded || n.Push(nil) != api.ErrEnded {
			t.Errorf("P7.1: %q: behind the fault and the end", d)
		}
		if _, how, f := n.Next(); how != api.Bad || *f != kept {
			t.Errorf("P7.2: %q, behind the end: %d %v", d, how, f)
		}
	}
	// Where the fault wasn't asked for, bytes behind it change nothing either.
	n := needMade(t, 9)
	needPushed(t, n, "<a></b>")
	needPushed(t, n, "</a>")
	needEnded(t, n)
	list, _, f := drain(t, n)
	if show(list) != "Open 0 1 a 0 3" || f == nil || f.At.Byte != 5 {
		t.Errorf("P7.3: %s, %v", show(list), f)
	}
}

func TestNil(t *testing.T) {
	var n *nest.Nest
	if n.Push(nil) != api.ErrNil || n.Push([]byte("<a/>")) != api.ErrNil || n.End() != api.ErrNil || n.End() != api.ErrNil {
		t.Error("P7.7: Push and End of a nil Nest")
	}
	if e, how, f := n.Next(); !reflect.DeepEqual(e, api.Event{}) || how != api.Have || f != nil {
		t.Errorf("P7.7: Next of a nil Nest: %+v %d %v", e, how, f)
	}
	if n.Depth() != 0 {
		t.Errorf("P7.5: Depth of a nil Nest: %d", n.Depth())
	}
}

// TestMadeOtherwise: the calls of such a Nest end.
func TestMadeOtherwise(t *testing.T) {
	n := new(nest.Nest)
	for range 3 {
		n.Push([]byte("<a>x</a>"))
		n.Next()
		n.Depth()
	}
	n.End()
	n.Next()
	a := needMade(t, 9)
	needPushed(t, a, "<a><b>x<c/></b></a><d/>")
	a.Next()
	b := *a
	for range 20 {
		a.Next()
		b.Next()
		b.Push([]byte("</a>"))
	}
}

// TestMemory: what is pushed is neither changed nor kept; what is answered is nobody else's.
func TestMemory(t *testing.T) {
	d := "<a c='3' b='2' a='1'>x<b c='3' b='2' a='1'/>y</a>"
	want, err := nest.Events([]byte(d), 9)
	if err != nil {
		t.Fatal(err)
	}
	n := needMade(t, 9)
	var got []api.Event
	var answered [][]api.Attr
	for i := range len(d) {
		room := []byte("<" + d[i:i+1] + "<")
		piece := room[1:2]
		if e := n.Push(piece); e != api.OK {
			t.Fatalf("P7.1: Push: %d", e)
		}
		if string(room) != "<"+d[i:i+1]+"<" {
			t.Fatalf("P7.7: what was pushed is changed: %q", room)
		}
		copy(room, "\x00\x00\x00")
		list, _, _ := drain(t, n)
		for _, e := range list {
			kept := e
			kept.Attrs = slices.Clone(e.Attrs)
			got = append(got, kept)
			answered = append(answered, e.Attrs)
			all := e.Attrs[:cap(e.Attrs)]
			for i := range all {
				all[i] = api.Attr{Name: "z", Value: "z"}
			}
		}
	}
	needEnded(t, n)
	if _, how, _ := drain(t, n); how != api.Done || show(got) != show(want) {
		t.Errorf("P7.7: %d, %s, want %s", how, show(got), show(want))
	}
	for _, list := range answered {
		for _, a := range list[:cap(list)] {
			if a.Name != "z" {
				t.Errorf("P7.7: answered attributes have been written to: %v", list)
			}
		}
	}
	// Events: neither the bytes nor the room behind them are changed, and its lists are each other's none.
	room := []byte(d + "room")
	list, _ := nest.Events(room[:len(d)], 9)
	if string(room) != d+"room" {
		t.Errorf("P7.6: what was handed in is changed: %q", room)
	}
	clear(room)
	for i := range list {
		all := list[i].Attrs[:cap(list[i].Attrs)]
		before := show(list[i+1:])
		clear(all)
		if show(list[i+1:]) != before {
			t.Errorf("P7.6: event %d shares its attributes", i)
		}
	}
}

// TestTwo: what one Nest is told is nothing to another.
func TestTwo(t *testing.T) {
	a, b := needMade(t, 1), needMade(t, 2)
	needPushed(t, a, "<a><")
	needPushed(t, b, "<b><")
	needPushed(t, a, "a/>")
	needPushed(t, b, "b/>")
	listA, howA, _ := drain(t, a)
	listB, howB, _ := drain(t, b)
	if show(listA) != "Open 0 1 a 0 3" || howA != api.Bad || show(listB) != "Open 0 1 b 0 3; Open 1 2 b 3 7; Close 1 2 b 3 7" || howB != api.Wait {
		t.Errorf("P7.7: %s, %d; %s, %d", show(listA), howA, show(listB), howB)
	}
}

// TestLong: byte by byte, asked behind each: what was gone through once isn't gone through again.
func TestLong(t *testing.T) {
	const size = 200000
	deep := api.MaxDepth
	for _, r := range []struct {
		what, d string
		want    int
	}{
		{"a text", "<a>" + strings.Repeat("x", size) + "</a>", 3},
		{"a value", "<a b='" + strings.Repeat("x", size) + "'/>", 2},
		{"blanks behind the root", "<a/>" + strings.Repeat(" ", size), 2},
		{"elements", "<a>" + strings.Repeat("<b/>", size/4) + "</a>", 2 + size/2},
		{"depth", nested(deep), 2 * deep},
	} {
		begin := time.Now()
		n := needMade(t, deep)
		count := 0
		for i := range len(r.d) {
			n.Push([]byte{r.d[i]})
			list, how, f := drain(t, n)
			if how != api.Wait {
				t.Fatalf("%s: %d %v", r.what, how, f)
			}
			count += len(list)
		}
		n.End()
		if _, how, _ := n.Next(); how != api.Done || count != r.want {
			t.Errorf("%s: %d, %d events", r.what, how, count)
		}
		if used := time.Since(begin); used > 20*time.Second {
			t.Errorf("%s: %v", r.what, used)
		}
	}
}
