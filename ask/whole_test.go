package ask_test

import (
	"errors"
	"math"
	"math/rand/v2"
	"reflect"
	"slices"
	"strings"
	"testing"

	"gimlet/api"
	"gimlet/ask"
	"gimlet/lexis"
)

// What follows holds Parse against the grammar of DOC.md: all ways to read the words are followed at once, from left to right (Earley's way). A word with which none of them goes on is the first one with which no query begins.

// grammar: in each line a rule's name and what it may be. NAME, TEXT, NUMBER are any words of that kind; what isn't the name of a rule is a word.
const grammar = `
Query Path
Query / Path
Query // Path
Path Step
Path Path / Step
Path Path // Step
Step .
Step Tested
Tested Test
Tested Axis :: Test
Tested Tested [ Expr ]
Axis child
Axis descendant
Axis descendant-or-self
Axis self
Test NAME
Test *
Test text ( )
Test node ( )
Expr Both
Expr Expr or Both
Both One
Both Both and One
One not ( Expr )
One ( Expr )
One Some
One Some = TEXT
One Some != TEXT
One starts-with ( Some , TEXT )
One ends-with ( Some , TEXT )
One contains ( Some , TEXT )
One string-length ( Some ) = NUMBER
One string-length ( Some ) > NUMBER
One string-length ( Some ) < NUMBER
Some Path
Some Path / Attr
Some Path // Attr
Some Attr
Attr @ NAME
`

// item: so much of a rule has been read, from that word on.
type item struct{ rule, dot, from int }

// reading is what is left of all ways behind each word.
type reading struct {
	rules [][]string // the name first
	heads map[string][]int
	sets  [][]item
}

func newReading() *reading {
	r := &reading{heads: map[string][]int{}}
	for line := range strings.Lines(grammar) {
		if rule := strings.Fields(line); len(rule) > 0 {
			r.heads[rule[0]] = append(r.heads[rule[0]], len(r.rules))
			r.rules = append(r.rules, rule)
		}
	}
	var set []item
	for _, rule := range r.heads["Query"] {
		set = append(set, item{rule, 1, 0})
	}
	r.sets = [][]item{r.closed(set)}
	return r
}

// wants: what an item reads next.
func (r *reading) wants(x item) string {
	if rule := r.rules[x.rule]; x.dot < len(rule) {
		return rule[x.dot]
	}
	return ""
}

// closed: the set with all that follows from it, it being the next one.
func (r *reading) closed(set []item) []item {
	put := func(x item) {
		if !slices.Contains(set, x) {
			set = append(set, x)
		}
	}
	for i := 0; i < len(set); i++ {
		x := set[i]
		if want := r.wants(x); want != "" {
			for _, rule := range r.heads[want] {
				put(item{rule, 1, len(r.sets)})
			}
			continue
		}
		for _, y := range r.sets[x.from] {
			if r.wants(y) == r.rules[x.rule][0] {
				put(item{y.rule, y.dot + 1, y.from})
			}
		}
	}
	return set
}

func fits(want string, word api.Word) bool {
	switch want {
	case "NAME":
		return word.Kind == api.WordName
	case "TEXT":
		return word.Kind == api.WordText
	case "NUMBER":
		return word.Kind == api.WordNumber
	}
	return (word.Kind == api.WordName || word.Kind == api.WordSign) && word.Text == want
}

// add: does a query begin with the words so far and this one? If so it is taken.
func (r *reading) add(word api.Word) bool {
	var set []item
	for _, x := range r.sets[len(r.sets)-1] {
		if fits(r.wants(x), word) {
			set = append(set, item{x.rule, x.dot + 1, x.from})
		}
	}
	if set == nil {
		return false
	}
	r.sets = append(r.sets, r.closed(set))
	return true
}

func (r *reading) drop() { r.sets = r.sets[:len(r.sets)-1] }

// whole: are the words so far a query?
func (r *reading) whole() bool {
	for _, x := range r.sets[len(r.sets)-1] {
		if r.rules[x.rule][0] == "Query" && x.dot == len(r.rules[x.rule]) {
			return true
		}
	}
	return false
}

// wrongFrom: the number of the first word with which no query begins; where there is none, how many words there are, and whether they are a query.
func wrongFrom(words []api.Word) (int, bool) {
	r := newReading()
	for i, word := range words {
		if !r.add(word) {
			return i, false
		}
	}
	return len(words), r.whole()
}

// judge: P11.1 by the words of q: wrong and whole are those of wrongFrom. It answers whether Parse did what is asked.
func judge(t *testing.T, q string, words []api.Word, wrong int, whole bool, nested int) bool {
	t.Helper()
	want := api.Fault{Why: api.ErrGram, At: placeOf(q, len(q))}
	if wrong < len(words) {
		want.At = words[wrong].At
	}
	around, counts := depths(words)
	most := min(max(nested, 0), api.MaxNested)
	for i := range words[:wrong] {
		if counts[i] && around[i] >= most {
			want, whole = api.Fault{Why: api.ErrDeep, At: words[i].At}, false
			break
		}
	}
	p, err := ask.Parse([]byte(q), len(q), nested)
	if whole {
		if err != nil {
			t.Errorf("P11.1: Parse(%q, .., %d): %v", q, nested, err)
		}
		return err == nil && judgePath(t, q, p)
	}
	var f *api.Fault
	if !errors.As(err, &f) || *f != want || p.Steps != nil {
		t.Errorf("P11.1: Parse(%q, .., %d) = %v, %v, want %d at %v", q, nested, p, err, want.Why, want.At)
		return false
	}
	return true
}

// judgePath: what must hold of a path that was parsed of q.
func judgePath(t *testing.T, q string, p api.Path) bool {
	t.Helper()
	text, e := ask.Print(p)
	if e != api.OK || ask.Check(p) != api.OK || text != plainly(p) {
		t.Errorf("P11.3: Print of %q: %q, %d, want %q", q, text, e, plainly(p))
		return false
	}
	again, err := ask.Parse([]byte(text), api.MaxQuery, api.MaxNested)
	if err != nil || !reflect.DeepEqual(tidyPath(again), tidyPath(p)) || !ask.Same(again, p) {
		t.Errorf("P11.4: %q, printed as %q, is read as %v, %v", q, text, again, err)
		return false
	}
	size, e := ask.Size(p)
	deep, g := ask.Nested(p)
	if e != api.OK || g != api.OK || size != countPath(p) || deep != nestedText(text) {
		t.Errorf("P11.5: of %q: Size %d, Nested %d, want %d, %d", q, size, deep, countPath(p), nestedText(text))
		return false
	}
	if deep > nestedText(q) {
		t.Errorf("P11.4: %q is nested %d deep, printed as %q %d", q, nestedText(q), text, deep)
		return false
	}
	return true
}

// judgeText: any text that is made of words.
func judgeText(t *testing.T, q string, nested ...int) {
	t.Helper()
	words, err := lexis.Words([]byte(q))
	if err != nil {
		t.Fatalf("%q: %v", q, err)
	}
	wrong, whole := wrongFrom(words)
	for _, n := range nested {
		judge(t, q, words, wrong, whole, n)
	}
}

// wordsOf: of a text of words.
func wordsOf(q string) []api.Word {
	words, err := lexis.Words([]byte(q))
	if err != nil {
		panic(err)
	}
	return words
}

// follow: all beginnings of queries that go on with at most that many of these words behind what was read; and each of them with a word behind it with which none begins.
func follow(r *reading, q string, words []api.Word, vocabulary []string, most int, visit func(q string, words []api.Word, wrong int, whole bool)) {
	visit(q, words, len(words), r.whole())
	for _, v := range vocabulary {
		longer := q + v + " "
		word := wordsOf(v)[0]
		word.At = placeOf(q, len(q))
		with := append(slices.Clone(words), word)
		switch {
		case !r.add(word):
			visit(longer, with, len(words), false)
			visit(longer+"]", append(with, wordsOf(longer + "]")[len(with)]), len(words), false)
		case most > 1:
			follow(r, longer, with, vocabulary, most-1, visit)
			r.drop()
		default:
			visit(longer, with, len(with), r.whole())
			r.drop()
		}
	}
}

func everyWord() []string {
	signs := []string{"/", "//", "[", "]", "(", ")", "::", "@", ".", "*", ",", "=", "!=", "<", ">"}
	return append(append(signs, "a", "'x'", "7"), languageNames()...)
}

func TestAllBeginnings(t *testing.T) {
	for _, c := range []struct {
		about, front, vocabulary string
		most                     int
	}{
		{"paths", "", "a * . / // @ :: child text ( ) [ ]", 7},
		{"steps in a predicate", "a [ ", "a . / // @ :: self node ( ) [ ]", 6},
		{"expressions", "a [ ", "a @ / and or not ( ) ] = 'x'", 6},
		{"names of operators alone", "a [ ", "and or not ( ) ]", 8},
		{"calls", "a [ ", "contains a @ . ( ) , 'x' = ]", 8},
		{"lengths", "a [ ", "string-length a @ ( ) = < != 7 and ]", 8},
	} {
		t.Run(c.about, func(t *testing.T) {
			t.Parallel()
			r := newReading()
			for _, word := range wordsOf(c.front) {
				r.add(word)
			}
			count := 0
			follow(r, c.front, wordsOf(c.front), strings.Fields(c.vocabulary), c.most, func(q string, words []api.Word, wrong int, whole bool) {
				count++
				for _, nested := range []int{20, 0, 1, 2} {
					if !judge(t, q, words, wrong, whole, nested) {
						t.FailNow()
					}
				}
			})
			t.Logf("%d texts", count)
		})
	}
}

// Every word of the language behind every kind of beginning.
func TestEveryWordBehind(t *testing.T) {
	for _, front := range []string{
		"", "/ ", "// ", "a / ", "a // ", "a ", ". ", "* ", "text ", "text ( ", "text ( ) ", "node ( ) ", "child ", "child :: ", "child :: text ", "child :: text ( ) ", "self :: self ",
		"a [ ", "a [ b ", "a [ . ", "a [ b / ", "a [ b // ", "a [ @ ", "a [ @ b ", "a [ b / @ c ", "a [ b ] ", "a [ b = ", "a [ b = 'x' ", "a [ b != ", "a [ not ", "a [ not ( ", "a [ not ( b ", "a [ not ( b ) ",
		"a [ ( ", "a [ ( b ", "a [ ( b ) ", "a [ b and ", "a [ b and c ", "a [ b or ", "a [ b or c and ", "a [ contains ", "a [ contains ( ", "a [ contains ( b ", "a [ contains ( b , ", "a [ contains ( b , 'x' ", "a [ contains ( b , 'x' ) ",
		"a [ string-length ", "a [ string-length ( ", "a [ string-length ( b ", "a [ string-length ( b ) ", "a [ string-length ( b ) = ", "a [ string-length ( b ) = 7 ", "a [ b [ ", "a [ b [ c ] ", "a [ text ( ) ", "a [ descendant :: ",
	} {
		t.Run(front, func(t *testing.T) {
			t.Parallel()
			r := newReading()
			for _, word := range wordsOf(front) {
				if !r.add(word) {
					t.Fatalf("%q is no beginning", front)
				}
			}
			follow(r, front, wordsOf(front), everyWord(), 2, func(q string, words []api.Word, wrong int, whole bool) {
				for _, nested := range []int{20, 0, 1, 2} {
					if !judge(t, q, words, wrong, whole, nested) {
						t.FailNow()
					}
				}
			})
		})
	}
}

// wholeQueries: some of each kind.
func wholeQueries() []string {
	return []string{
		"a", "/a/b", "//a", ".//*", "and[or]/not/text", "a[@b='x']", "a[b//@c and not(d or e)]", "a[string-length(text()) > 007]", "//a[ ( b or c ) and d ]", "a[ .=\"'\"]/self::node()[@x]",
		"child::child/descendant::descendant/descendant-or-self::descendant-or-self/self::self", "text()/text/node()/node/child::text()/self::node", "*/child::*/descendant::*",
		"a[b][c][@d]//e[./@f]/.", "a[not(not(b))]", "a[(((b)))]", "a[not and not(not) or or and and]", "a[and and and or or or or]", "not[not]/contains[contains]/string-length",
		"a[starts-with(b//c, 'x') and ends-with(@d, \"\") and contains(., 'é')]", "a[string-length(.)=0 or string-length(@b)<1000000 or string-length(c/d/@e)>7]",
		"a[b[c[d[e]]]]", "a[(b or c) and (d or e) or (f and g)]", "a[@b!='x' and b/text()!=\"y\" and .//@c = '']", "//text()[contains(contains,'contains')]", "self::node()[a]/self::node()",
		"a[not((b) and (c))]/b[not(d)][(e)and(f)or(g)]",
	}
}

// Each query cut behind each of its words; each word taken out, changed to each other, each other put in ahead of it; each word put in quotes.
func TestQueriesCutAndChanged(t *testing.T) {
	for _, q := range wholeQueries() {
		t.Run(q, func(t *testing.T) {
			t.Parallel()
			var list []string
			for _, word := range wordsOf(q) {
				list = append(list, lexis.Print([]api.Word{word}))
			}
			limits := []int{api.MaxNested, nestedText(q), nestedText(q) - 1}
			judgeText(t, q, limits...)
			for i := range len(list) + 1 {
				front := strings.Join(list[:i], " ")
				judgeText(t, front, limits...)
				judgeText(t, front+" ", limits...)
				behind := ""
				others := everyWord()
				if i < len(list) {
					behind = strings.Join(list[i+1:], " ")
					judgeText(t, front+" "+behind, limits...)
					// A text is no sign and no name, whatever it says.
					others = append(others, lexis.Print([]api.Word{{Kind: api.WordText, Text: wordsOf(q)[i].Text}}))
				}
				for _, v := range others {
					judgeText(t, front+" "+v+" "+strings.Join(list[i:], " "), limits...)
					if i < len(list) {
						judgeText(t, front+" "+v+"\n"+behind, limits...)
					}
				}
			}
		})
	}
}

// Paths that are made, written in many ways: each is read as just that path.
func TestPathsWrittenManyWays(t *testing.T) {
	for seed := range uint64(8) {
		t.Run("", func(t *testing.T) {
			t.Parallel()
			m := maker{rand.New(rand.NewPCG(seed, 11))}
			for range 2000 {
				p := m.path(m.r.IntN(5))
				if ask.Check(p) != api.OK {
					t.Fatalf("P11.2: Check(%v) = %d", p, ask.Check(p))
				}
				needRead(t, plainly(p), p)
				if !judgePath(t, plainly(p), p) || t.Failed() {
					t.FailNow()
				}
				for range 4 {
					needRead(t, loosely(p, m.r.IntN), p)
				}
			}
		})
	}
}

// needRead: q is p's, just within its own length and depth, and no query within less.
func needRead(t *testing.T, q string, p api.Path) {
	t.Helper()
	deep := nestedText(q)
	got, err := ask.Parse([]byte(q), len(q), deep)
	if err != nil || !reflect.DeepEqual(tidyPath(got), tidyPath(p)) {
		t.Fatalf("P11.1: Parse(%q, %d, %d) = %v, %v, want %v", q, len(q), deep, got, err, p)
	}
	needFault(t, q, len(q)-1, deep, api.ErrLong, placeOf(q, len(q)-1))
	if deep > 0 {
		words := wordsOf(q)
		around, counts := depths(words)
		for i := range words {
			if counts[i] && around[i] == deep-1 {
				needFault(t, q, len(q), deep-1, api.ErrDeep, words[i].At)
				return
			}
		}
	}
}

// isQuerys: P11.2 by Parse: a path is a query's, if what P11.3 asks for is read as that path.
func isQuerys(p api.Path) bool {
	got, err := ask.Parse([]byte(plainly(p)), api.MaxQuery, api.MaxNested)
	return err == nil && reflect.DeepEqual(tidyPath(got), tidyPath(p))
}

// judgeShape: P11.2, P11.3, P11.5 of any value. It answers whether it is a query's path.
func judgeShape(t *testing.T, p api.Path) bool {
	t.Helper()
	want := api.ErrShape
	if isQuerys(p) {
		want = api.OK
	}
	text, e := ask.Print(p)
	size, f := ask.Size(p)
	deep, g := ask.Nested(p)
	if c := ask.Check(p); c != want || e != want || f != want || g != want {
		t.Errorf("P11.2: of %+v Check %d, Print %d, Size %d, Nested %d, want %d", p, c, e, f, g, want)
	}
	if want != api.OK && (text != "" || size != 0 || deep != 0) {
		t.Errorf("P11.2: of %+v beside an error %q, %d, %d", p, text, size, deep)
	}
	if want == api.OK && (text != plainly(p) || size != countPath(p) || deep != nestedText(text)) {
		t.Errorf("P11.3: of %+v %q, %d, %d", p, text, size, deep)
	}
	return want == api.OK
}

// eachChange: visits the path with each of its fields changed to each of several values, lists cut, doubled, emptied and mixed; then all is as it was.
func eachChange(v reflect.Value, visit func()) {
	switch v.Kind() {
	case reflect.Struct:
		for i := range v.NumField() {
			eachChange(v.Field(i), visit)
		}
	case reflect.Int:
		old := v.Int()
		for _, n := range []int64{-1, 0, 1, 2, 3, 4, 5, 6, 7, 8, 9, 10, api.MaxNumber, api.MaxNumber + 1, math.MaxInt32, math.MinInt32, math.MaxInt, math.MinInt} {
			v.SetInt(n)
			visit()
		}
		v.SetInt(old)
	case reflect.String:
		old := v.String()
		for _, s := range append(someTexts(), "a", "é", "1", "a b", " a", "a ", "\n", "\xFF", "a\xFF", "\xC3", "\xED\xA0\x80", `'"`, `"'`, "*", "text()", "a:b", "\uFFFD", "and", "a/b", ".", "a[b]", "child::a", "@a", "-a", "\u00B7", "a\u00B7", "\x00", "?") {
			v.SetString(s)
			visit()
		}
		v.SetString(old)
	case reflect.Slice:
		eachListChange(v, visit)
		for i := range v.Len() {
			eachChange(v.Index(i), visit)
		}
	}
}

func eachListChange(v reflect.Value, visit func()) {
	old := reflect.ValueOf(v.Interface())
	var extra []reflect.Value
	if v.Type() == reflect.TypeFor[[]api.Step]() {
		for _, s := range []api.Step{{}, here(), child("a"), anyDepth()} {
			extra = append(extra, reflect.ValueOf(s))
		}
	} else {
		for _, x := range []api.Expr{{}, there(child("a")), {Op: api.Some}, allOf(there(here()), there(here())), oneOf(there(here()), there(here())), no(there(here())), {Op: api.Not}} {
			extra = append(extra, reflect.ValueOf(x))
		}
	}
	for n := range old.Len() + 1 {
		v.Set(reflect.AppendSlice(reflect.MakeSlice(v.Type(), 0, 0), old.Slice(0, n)))
		visit()
		v.Set(reflect.AppendSlice(reflect.MakeSlice(v.Type(), 0, 0), old.Slice(n, old.Len())))
		visit()
		for _, x := range extra {
			v.Set(reflect.AppendSlice(reflect.Append(reflect.AppendSlice(reflect.MakeSlice(v.Type(), 0, 0), old.Slice(0, n)), x), old.Slice(n, old.Len())))
			visit()
		}
	}
	v.Set(reflect.Zero(v.Type()))
	visit()
	v.Set(old)
}

// P11.2, P11.6: each field of paths of all kinds changed. Same says whether there is anything unlike.
func TestPathsChanged(t *testing.T) {
	for _, q := range wholeQueries() {
		t.Run(q, func(t *testing.T) {
			t.Parallel()
			p, err := ask.Parse([]byte(q), 1000, 20)
			before, other := ask.Parse([]byte(q), 1000, 20)
			if err != nil || other != nil {
				t.Fatal(err, other)
			}
			good, bad := 0, 0
			eachChange(reflect.ValueOf(&p).Elem(), func() {
				if judgeShape(t, p) {
					good++
				} else {
					bad++
				}
				want := reflect.DeepEqual(tidyPath(p), tidyPath(before))
				if ask.Same(p, before) != want || ask.Same(before, p) != want || !ask.Same(p, p) {
					t.Errorf("P11.6: Same(%+v, %+v), want %v", p, before, want)
				}
				if t.Failed() {
					t.FailNow()
				}
			})
			if !ask.Same(p, before) || good == 0 || bad == 0 {
				t.Errorf("%q: %d are queries' paths, %d are none", q, good, bad)
			}
		})
	}
}
