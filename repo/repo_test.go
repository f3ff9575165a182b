package repo

import (
	"bytes"
	"errors"
	"math"
	"slices"
	"strings"
	"testing"

	"cartage/api"
	"cartage/entry"
)

func TestExample(t *testing.T) {
	x := blob("x")
	r := New()
	if err := r.Apply(push(1, moves(move("refs/a", nil, x)), x)); err != nil {
		t.Fatal(err)
	}
	if got := r.Refs(); !slices.Equal(got, []Ref{{"refs/a", idOf(x)}}) {
		t.Errorf("refs: %v", got)
	}
	if got := r.Objects(); len(got) != 1 || !bytes.Equal(got[0], x) {
		t.Errorf("objects: %q", got)
	}
	if r.Seq() != 1 {
		t.Errorf("Seq: %d", r.Seq())
	}
}

func TestNew(t *testing.T) {
	alike(t, New(), nil)
	if !Same(New(), New()) {
		t.Error("two new ones aren't the same")
	}
	r := New()
	r.Apply(refusal(0, 1, api.Malformed))
	alike(t, New(), nil) // no two new ones share anything
}

// A Repo that New didn't make has no entries, either.
func TestZeroRepo(t *testing.T) {
	var r Repo
	alike(t, &r, nil)
	alike(t, r.Copy(), nil)
	if !Same(&r, New()) {
		t.Error("it isn't the same as a new one")
	}
	x := blob("x")
	p := come(t, &r, nil, refusal(7, 1, api.Malformed))
	p = come(t, &r, p, push(1, moves(move("refs/a", nil, x)), x))
	alike(t, &r, p)
}

// What an entry does to refs, one entry behind the other.
func TestRefs(t *testing.T) {
	x, y := blob("x"), blob("y")
	r, p := New(), plain(nil)
	for k, updates := range [][]api.Update{
		moves(move("refs/b", nil, x)),
		moves(move("refs/a", nil, y), move("refs/c", nil, x)),
		moves(move("refs/b", x, y)),
		moves(move("refs/a/b", nil, x), move("refs/a", y, x)),
		moves(move("refs/b", y, nil)), // it isn't there any more
		moves(move("refs/b", nil, x)),
		moves(move("refs/c", x, nil), move("refs/b", x, nil), move("refs/a", x, nil), move("refs/a/b", x, nil)),
		moves(move("refs/a", nil, y)),
	} {
		e := push(k+1, updates)
		if k == 0 {
			e.Objects = [][]byte{y, x}
		}
		if want := p.fault(e); want != nil {
			t.Fatalf("entry %d: %v", k, want)
		}
		p = come(t, r, p, e)
		alike(t, r, p)
	}
	if got := r.Refs(); !slices.Equal(got, []Ref{{"refs/a", idOf(y)}}) {
		t.Errorf("refs: %v", got)
	}
	if got := r.Objects(); len(got) != 2 { // no ref hangs on x any more
		t.Errorf("objects: %q", got)
	}
}

func TestRefsAreByTheirNames(t *testing.T) {
	x := blob("x")
	r := New()
	for k, name := range []string{"b/a", "a/b", "a/a/z", "a-/z", "a.b/z", "a/a", "a0/z", "aa/z", "0/z", "-/z", "a/-"} {
		e := push(k+1, moves(move(name, nil, x)))
		if k == 0 {
			e.Objects = [][]byte{x}
		}
		if err := r.Apply(e); err != nil {
			t.Fatal(err)
		}
	}
	var got []string
	for _, ref := range r.Refs() {
		got = append(got, ref.Name)
	}
	want := "-/z 0/z a-/z a.b/z a/- a/a a/a/z a/b a0/z aa/z b/a"
	if strings.Join(got, " ") != want {
		t.Errorf("%q, not %q", got, want)
	}
}

// Objects are there from the entry on that brings them, whether a ref hangs on them or not.
func TestObjects(t *testing.T) {
	x, y, z := blob("x"), blob("y"), blob("z")
	top := tree(x, y)
	first := commit("first", top)
	next := commit("next", tree(), first)
	loose := commit("loose", z, blob("nowhere")) // neither whole nor right, but no ref hangs on it
	r, p := New(), plain(nil)
	for k, e := range []entry.Entry{
		push(0, moves(move("refs/a", nil, first)), y, top, first, x),
		push(0, moves(move("refs/b", nil, x))),
		push(0, moves(move("refs/b", x, nil)), loose, z),
		push(0, moves(move("refs/a", first, next), move("refs/v", nil, tag("v1", next))), tag("v1", next), next, tree()),
		push(0, moves(move("refs/a", next, nil), move("refs/v", tag("v1", next), nil))),
		push(0, moves(move("refs/a", nil, next))),
	} {
		e.Number = k + 1
		if want := p.fault(e); want != nil {
			t.Fatalf("entry %d: %v", k, want)
		}
		p = come(t, r, p, e)
		alike(t, r, p)
	}
	if got := len(r.Objects()); got != 9 {
		t.Errorf("%d objects", got)
	}
}

// An answer that isn't OK is in the journal, and does nothing else.
func TestOtherAnswers(t *testing.T) {
	x := blob("x")
	for answer := 1; answer <= 10; answer++ {
		r, p := made(t, push(1, moves(move("refs/a", nil, x)), x))
		p = come(t, r, p, refusal(3, 5, answer))
		alike(t, r, p)
		if number, got := r.Last(3); number != 5 || got != answer {
			t.Errorf("Last: %d, %d", number, got)
		}
		if r.Seq() != 2 || r.Ref("refs/a") != idOf(x) {
			t.Errorf("Seq %d, %v", r.Seq(), r.Refs())
		}
	}
}

func TestEntriesThatAreNotRight(t *testing.T) {
	x := blob("x")
	there := []entry.Entry{push(5, moves(move("refs/a", nil, x)), x)}
	good := moves(move("refs/b", nil, x))
	var many [][]byte
	for k := range 9 {
		many = append(many, append(blob(""), bytes.Repeat([]byte{byte('0' + k)}, 299)...)) // too many bytes in all
	}
	for what, e := range map[string]entry.Entry{
		"nothing":                    {},
		"client -1":                  {Client: -1, Number: 9, Updates: good},
		"client 8":                   {Client: 8, Number: 9, Updates: good},
		"the least client":           {Client: math.MinInt, Number: 9, Updates: good},
		"the greatest client":        {Client: math.MaxInt, Number: 9, Updates: good},
		"client 8 without OK":        {Client: 8, Number: 9, Answer: 1},
		"number 0":                   {Number: 0, Updates: good},
		"number -1":                  {Client: 1, Number: -1, Updates: good},
		"the least number":           {Client: 1, Number: math.MinInt, Updates: good},
		"a number too great":         {Number: 1<<40 + 1, Updates: good},
		"the greatest number":        {Number: math.MaxInt, Answer: 1},
		"answer -1":                  {Number: 9, Answer: -1},
		"answer 11":                  {Number: 9, Answer: 11},
		"OK without updates":         {Number: 9},
		"OK with objects alone":      {Number: 9, Objects: [][]byte{blob("y")}},
		"updates without OK":         {Number: 9, Answer: 2, Updates: good},
		"objects without OK":         {Number: 9, Answer: 2, Objects: [][]byte{blob("y")}},
		"a ref twice":                push(9, moves(move("refs/b", nil, x), move("refs/b", nil, x))),
		"no ref's name":              push(9, moves(move("b", nil, x))),
		"from an id to itself":       push(9, moves(move("refs/a", x, x))),
		"from noughts to noughts":    push(9, moves(move("refs/b", nil, nil))),
		"an object twice":            push(9, good, blob("y"), blob("y")),
		"an object that isn't right": push(9, good, []byte("x")),
		"an object without bytes":    push(9, good, nil),
		"too many objects":           push(9, good, blobs(65)...),
		"too many updates":           push(9, append(good, moves(move("r/c", nil, x), move("r/d", nil, x), move("r/e", nil, x), move("r/f", nil, x), move("r/g", nil, x), move("r/h", nil, x), move("r/i", nil, x), move("r/j", nil, x))...)),
		"too many bytes":             push(9, good, many...),
	} {
		refused(t, what, there, e, api.ErrForm)
		refused(t, what+", at first", nil, e, api.ErrForm)
	}
}

func TestNumbers(t *testing.T) {
	const most = 1 << 40
	list := []entry.Entry{refusal(0, 1, 1), refusal(1, 7, 2), refusal(0, 5, 3), refusal(7, most-1, 4), refusal(2, most, 5)}
	for _, c := range []struct {
		client, number int
		want           error
	}{
		{0, 1, api.ErrStale}, {0, 2, api.ErrStale}, {0, 4, api.ErrStale}, {0, 5, api.ErrStale}, {0, 6, nil}, {0, 7, nil}, {0, most, nil},
		{1, 1, api.ErrStale}, {1, 6, api.ErrStale}, {1, 7, api.ErrStale}, {1, 8, nil},
		{7, most - 2, api.ErrStale}, {7, most - 1, api.ErrStale}, {7, most, nil},
		{2, 1, api.ErrStale}, {2, most, api.ErrStale}, {2, most + 1, api.ErrForm},
		{3, 1, nil}, {4, 5, nil}, {5, 7, nil}, {6, most, nil},
	} {
		x := blob("x")
		e := push(c.number, moves(move("refs/a", nil, x)), x)
		e.Client = c.client
		refused(t, "OK", list, e, c.want)
		refused(t, "another answer", list, refusal(c.client, c.number, api.CasMismatch), c.want)
	}
}

func TestRefsThatAreElsewhere(t *testing.T) {
	x, y := blob("x"), blob("y")
	near := move("refs/a", x, y)
	near.Old[31]++
	list := []entry.Entry{
		push(1, moves(move("refs/a", nil, x), move("refs/b", nil, y), move("refs/c", nil, x)), x, y),
		push(2, moves(move("refs/c", x, nil))),
	}
	for _, c := range []struct {
		what    string
		updates []api.Update
		want    error
	}{
		{"where it is", moves(move("refs/a", x, y)), nil},
		{"where it is, and away", moves(move("refs/a", x, nil)), nil},
		{"where another one is", moves(move("refs/a", y, x)), api.ErrCas},
		{"near where it is", moves(near), api.ErrCas},
		{"where nothing is", moves(move("refs/a", blob("z"), y)), api.ErrCas},
		{"it is there", moves(move("refs/a", nil, y)), api.ErrCas},
		{"it is there, and so", moves(move("refs/a", nil, x)), api.ErrCas},
		{"it isn't there", moves(move("refs/z", x, y)), api.ErrCas},
		{"it isn't there, and away", moves(move("refs/z", x, nil)), api.ErrCas},
		{"it isn't there any more", moves(move("refs/c", x, y)), api.ErrCas},
		{"it comes again", moves(move("refs/c", nil, y)), nil},
		{"the name of one below", moves(move("refs/a/x", x, y)), api.ErrCas},
		{"two where they are", moves(move("refs/b", y, x), move("refs/a", x, y)), nil},
		{"the first elsewhere", moves(move("refs/a", y, x), move("refs/b", y, x)), api.ErrCas},
		{"the last elsewhere", moves(move("refs/a", x, y), move("refs/b", x, y)), api.ErrCas},
		{"where the other one goes", moves(move("refs/z", nil, x), move("refs/y", x, y)), api.ErrCas},
	} {
		refused(t, c.what, list, push(3, c.updates), c.want)
	}
}

// full is entries behind which there are so many refs, all on the first blob, and so many objects.
func full(refs, objects int) []entry.Entry {
	texts := blobs(objects)
	list := []entry.Entry{ // so the objects come, even if there is no ref in the end
		push(1, moves(move("refs/0", nil, texts[0])), texts...),
		push(2, moves(move("refs/0", texts[0], nil))),
	}
	for k, name := range names(refs) {
		list = append(list, push(k+3, moves(move(name, nil, texts[0]))))
	}
	return list
}

func TestTooManyRefs(t *testing.T) {
	x, y := blobs(2)[0], blobs(2)[1]
	for refs := 0; refs <= 16; refs++ {
		list := full(refs, 2)
		for more := 1; more <= 8; more++ {
			var updates []api.Update
			for _, name := range names(refs + more)[refs:] {
				updates = append(updates, move(name, nil, y))
			}
			want := api.ErrFull
			if refs+more <= 16 {
				want = nil
			}
			refused(t, "some more", list, push(99, updates), want)
			if refs > 0 && more < 8 {
				refused(t, "one moves", list, push(99, append(updates, move("refs/a", x, y))), want)
				want := api.ErrFull
				if refs+more-1 <= 16 {
					want = nil
				}
				refused(t, "one goes last", list, push(99, append(updates, move("refs/a", x, nil))), want)
				refused(t, "one goes first", list, push(99, slices.Insert(updates, 0, move("refs/a", x, nil))), want)
			}
		}
	}
	refused(t, "as many as may be: one moves", full(16, 2), push(99, moves(move("refs/p", x, y))), nil)
	refused(t, "as many as may be: one goes", full(16, 2), push(99, moves(move("refs/p", x, nil))), nil)
}

func TestTooManyObjects(t *testing.T) {
	fresh := func(n int) [][]byte {
		var list [][]byte
		for k := range n {
			list = append(list, blob(string([]byte{'+', byte(k)})))
		}
		return list
	}
	for _, objects := range []int{1, 2, 30, 62, 63, 64} {
		list := full(1, objects)
		x := blobs(1)[0]
		updates := moves(move("refs/z", nil, x))
		for _, more := range []int{0, 1, 2, 3, 33, 34, 35, 62, 63, 64} {
			want := api.ErrFull
			if objects+more <= 64 {
				want = nil
			}
			refused(t, "more", list, push(99, updates, fresh(more)...), want)
			if more > 0 && more < 64 { // what is there already counts once more
				want := api.ErrFull
				if objects+more <= 64 {
					want = api.ErrDup
				}
				refused(t, "one of them there already", list, push(99, updates, append(fresh(more-1), x)...), want)
			}
		}
	}
	refused(t, "64 at once", nil, push(1, moves(move("refs/a", nil, blobs(1)[0])), blobs(64)...), nil)
}

func TestObjectsThatAreThereAlready(t *testing.T) {
	x, y, z := blob("x"), blob("y"), blob("z")
	top := tree(x)
	list := []entry.Entry{
		push(1, moves(move("refs/a", nil, top)), x, y, top),
		push(2, moves(move("refs/a", top, x))),
	}
	for _, c := range []struct {
		what    string
		objects [][]byte
		want    error
	}{
		{"a ref hangs on it", [][]byte{x}, api.ErrDup},
		{"no ref hangs on it, nor ever did", [][]byte{y}, api.ErrDup},
		{"no ref hangs on it any more", [][]byte{top}, api.ErrDup},
		{"the first of some", [][]byte{x, z, tree()}, api.ErrDup},
		{"the last of some", [][]byte{z, tree(), y}, api.ErrDup},
		{"all", [][]byte{top, y, x}, api.ErrDup},
		{"none", [][]byte{z, tree(), tree(y)}, nil},
		{"none at all", nil, nil},
	} {
		refused(t, c.what, list, push(3, moves(move("refs/b", nil, y)), c.objects...), c.want)
	}
}

func TestWhatIsMissing(t *testing.T) {
	x, y, z := blob("x"), blob("y"), blob("z")
	top := tree(x, y)
	first := commit("first", top)
	next := commit("next", tree(), first)
	v1, v2 := tag("v1", next), tag("v2", tag("v1", next))
	ofBlob, ofCommit := commit("of a blob", z), commit("of a commit", first)
	list := []entry.Entry{push(1, moves(move("refs/a", nil, first)), x, y, top, first)}
	for _, c := range []struct {
		what    string
		to      []byte
		objects [][]byte
		want    error
	}{
		{"it is there", x, nil, nil},
		{"it comes", z, [][]byte{z}, nil},
		{"it is missing", z, nil, api.ErrMissing},
		{"another one comes", z, [][]byte{blob("zz")}, api.ErrMissing},
		{"a tree's entry is missing", tree(x, z), [][]byte{tree(x, z)}, api.ErrMissing},
		{"a tree's entry comes", tree(x, z), [][]byte{tree(x, z), z}, nil},
		{"a commit's tree is missing", next, [][]byte{next}, api.ErrMissing},
		{"a commit's tree comes", next, [][]byte{next, tree()}, nil},
		{"a commit's parent is missing", commit("", top, next), [][]byte{commit("", top, next)}, api.ErrMissing},
		{"what a parent needs is missing", commit("", top, next), [][]byte{commit("", top, next), next}, api.ErrMissing},
		{"all of it comes", commit("", top, next), [][]byte{commit("", top, next), next, tree()}, nil},
		{"a tag's object is missing", v1, [][]byte{v1}, api.ErrMissing},
		{"far behind", v2, [][]byte{v2, v1, next}, api.ErrMissing},
		{"far behind, and all comes", v2, [][]byte{tree(), next, v1, v2}, nil},
		{"a commit of a blob", ofBlob, [][]byte{ofBlob, z}, api.ErrMissing},
		{"a commit of a commit", ofCommit, [][]byte{ofCommit}, api.ErrMissing},
		{"a tag of a commit of a blob", tag("", ofBlob), [][]byte{tag("", ofBlob), ofBlob, z}, api.ErrMissing},
		{"beside a commit of a blob", z, [][]byte{ofBlob, z}, nil},
		{"beside what lacks something", x, [][]byte{v1, tree(z)}, nil},
	} {
		refused(t, c.what, list, push(2, moves(move("refs/b", nil, c.to)), c.objects...), c.want)
		refused(t, c.what+": a ref moves", list, push(2, moves(move("refs/a", first, c.to)), c.objects...), c.want)
		refused(t, c.what+": with others", list, push(2, moves(move("refs/c", nil, x), move("refs/b", nil, c.to), move("refs/d", nil, y)), c.objects...), c.want)
	}
}

// What came ahead, and lacked something, may be hung on when that comes.
func TestWhatComesLater(t *testing.T) {
	x, y := blob("x"), blob("y")
	both := tree(x, y)
	r, p := made(t, push(1, moves(move("refs/a", nil, x)), x, both))
	p = come(t, r, p, push(2, moves(move("refs/b", nil, both)))) // y is missing
	if r.Seq() != 1 {
		t.Fatal("y is missing, but it fits")
	}
	p = come(t, r, p, push(2, moves(move("refs/b", nil, both)), y))
	if r.Seq() != 2 {
		t.Fatal("y comes, but it doesn't fit")
	}
	alike(t, r, p)
}

// faulty is an entry that has some faults, and the error that is named first.
func faulty(full string, has func(k int) bool) (entry.Entry, error) {
	texts := blobs(62)
	x, y := texts[0], texts[1]
	e := push(101, moves(move("refs/a", x, y)), blob("one"))
	if has(5) {
		e.Updates[0].New = idOf(blob("nowhere"))
	}
	if has(4) {
		e.Objects = append(e.Objects, x)
	}
	if has(3) && full == "refs" {
		e.Updates = append(e.Updates, move("refs/q", nil, y))
	}
	if has(3) && full == "objects" {
		e.Objects = append(e.Objects, blob("two"), blob("three"))
	}
	if has(2) {
		e.Updates = append(e.Updates, move("refs/b", y, x))
	}
	if has(1) {
		e.Number = 100
	}
	if has(0) {
		e.Updates = append(e.Updates, move("b", nil, x))
	}
	for k, err := range []error{api.ErrForm, api.ErrStale, api.ErrCas, api.ErrFull, api.ErrDup, api.ErrMissing} {
		if has(k) {
			return e, err
		}
	}
	return e, nil
}

func TestOrderOfErrors(t *testing.T) {
	list := full(16, 62)
	list[len(list)-1].Number = 100
	for _, what := range []string{"refs", "objects"} {
		for faults := range 1 << 6 {
			e, want := faulty(what, func(k int) bool { return faults>>k&1 == 1 })
			refused(t, what, list, e, want)
		}
	}
}

func TestEntries(t *testing.T) {
	var list []entry.Entry
	for k := range 5 {
		list = append(list, refusal(k%3, k+1, k+1))
	}
	x := blob("x")
	list = append(list, push(6, moves(move("refs/a", nil, x), move("refs/b", nil, x)), blob("y"), x))
	r, p := made(t, list...)
	for from := -3; from < 10; from++ {
		for most := -3; most < 10; most++ {
			if got, want := r.Entries(from, most), p.entries(from, most); !slices.EqualFunc(got, want, entry.Same) {
				t.Errorf("Entries(%d, %d): %v, not %v", from, most, got, want)
			}
		}
	}
	ends := []int{math.MinInt, math.MinInt + 1, math.MinInt + 6, -1 << 32, 1 << 32, 1<<32 + 2, math.MaxInt - 6, math.MaxInt - 1, math.MaxInt}
	for _, end := range ends {
		for n := range 8 {
			for _, c := range [][2]int{{n, end}, {end, n}, {end, end}} {
				if got, want := r.Entries(c[0], c[1]), p.entries(c[0], c[1]); !slices.EqualFunc(got, want, entry.Same) {
					t.Errorf("Entries(%d, %d): %v, not %v", c[0], c[1], got, want)
				}
			}
		}
	}
}

func TestLast(t *testing.T) {
	list := []entry.Entry{refusal(7, 3, 10), refusal(0, 9, 3), refusal(0, 10, 7), refusal(1, 1<<40, 4)}
	x := blob("x")
	list = append(list, push(11, moves(move("refs/a", nil, x)), x))
	r, _ := made(t, list...)
	for client, want := range map[int][2]int{
		0: {11, 0}, 1: {1 << 40, 4}, 7: {3, 10}, 2: {}, 6: {}, 8: {}, -1: {}, 64: {}, 256: {}, -256: {}, math.MinInt: {}, math.MaxInt: {},
	} {
		if number, answer := r.Last(client); number != want[0] || answer != want[1] {
			t.Errorf("Last(%d): %d, %d, not %v", client, number, answer, want)
		}
	}
}

func TestCopy(t *testing.T) {
	x, y, z := blob("x"), blob("y"), blob("z")
	list := []entry.Entry{push(1, moves(move("refs/a", nil, x), move("refs/b", nil, y)), x, y), refusal(1, 4, 2), refusal(2, 1, 1)}
	for n := range len(list) + 1 { // whatever room there is behind the journal
		r, p := made(t, list[:n]...)
		one, two := r.Copy(), r.Copy()
		if !Same(r, one) || !Same(one, two) {
			t.Error("a copy isn't the same")
		}
		left := p.behind(push(50, moves(move("refs/l", nil, z)), z))
		right := p.behind(refusal(3, 1, api.TooLarge)).behind(push(51, moves(move("refs/r", nil, tree())), tree()))
		if n > 0 {
			right = right.behind(push(52, moves(move("refs/a", x, nil))))
		}
		for k := range max(len(left), len(right)) - n { // in turn
			if n+k < len(right) {
				come(t, two, right[:n+k], right[n+k])
			}
			if n+k < len(left) {
				come(t, one, left[:n+k], left[n+k])
			}
			alike(t, r, p)
		}
		alike(t, one, left)
		alike(t, two, right)
		p = come(t, r, p, refusal(4, 1, api.NoRepo))
		alike(t, r, p)
		alike(t, one, left)
		alike(t, two, right)
		if Same(one, two) || Same(r, one) || Same(two, r) {
			t.Error("what went on apart is the same")
		}
	}
}

func TestSame(t *testing.T) {
	x, y := blob("x"), blob("y")
	first := push(1, moves(move("refs/a", nil, x)), x, y)
	journals := map[string][]entry.Entry{
		"none":              nil,
		"one":               {first},
		"client":            {{Client: 1, Number: 1, Updates: first.Updates, Objects: first.Objects}},
		"number":            {push(2, first.Updates, x, y)},
		"objects in order":  {push(1, first.Updates, y, x)},
		"fewer objects":     {push(1, first.Updates, x)},
		"a ref":             {push(1, moves(move("refs/b", nil, x)), x, y)},
		"another id":        {push(1, moves(move("refs/a", nil, y)), x, y)},
		"a refusal":         {refusal(0, 1, 2)},
		"another refusal":   {refusal(0, 1, 3)},
		"a refusal more":    {first, refusal(0, 2, 2)},
		"another one more":  {first, refusal(0, 2, 3)},
		"two more":          {first, refusal(0, 2, 2), refusal(0, 3, 2)},
		"two in order":      {first, refusal(1, 1, 2), refusal(2, 1, 2)},
		"two in other":      {first, refusal(2, 1, 2), refusal(1, 1, 2)},
		"there and back":    {first, push(2, moves(move("refs/a", x, y))), push(3, moves(move("refs/a", y, x)))},
		"both refs at once": {push(1, moves(move("refs/a", nil, x), move("refs/b", nil, x)), x)},
		"both, in order":    {push(1, moves(move("refs/b", nil, x), move("refs/a", nil, x)), x)},
	}
	for one, list := range journals {
		a, _ := made(t, list...)
		for two, other := range journals {
			b, _ := made(t, other...)
			if Same(a, b) != (one == two) {
				t.Errorf("Same of %s and %s: %v", one, two, one != two)
			}
		}
		if !Same(a, a) || !Same(a, a.Copy()) || Same(a, nil) || Same(nil, a) {
			t.Errorf("Same of %s, itself, its copy and none", one)
		}
	}
	if Same(nil, nil) {
		t.Error("none has no journal, but the same one as none")
	}
}

// What was refused leaves no trace in the journal.
func TestSameBehindRefusals(t *testing.T) {
	x := blob("x")
	a, _ := made(t, push(1, moves(move("refs/a", nil, x)), x))
	b := a.Copy()
	for _, e := range []entry.Entry{{}, push(1, moves(move("refs/b", nil, x))), push(2, moves(move("refs/a", nil, x))), push(2, moves(move("refs/b", nil, x)), x), push(2, moves(move("refs/b", nil, blob("y"))), blob("z"))} {
		if err := b.Apply(e); err == nil {
			t.Errorf("%v fits", e)
		}
	}
	if !Same(a, b) {
		t.Error("they aren't the same")
	}
	if err := b.Apply(push(2, moves(move("refs/b", nil, x)), blob("z"))); err != nil {
		t.Error(err) // neither its number nor its object was kept by what was refused
	}
}

func TestReplay(t *testing.T) {
	x, y := blob("x"), blob("y")
	list := []entry.Entry{
		push(1, moves(move("refs/a", nil, x)), x),
		refusal(1, 1, api.CasMismatch),
		push(2, moves(move("refs/a", x, y), move("refs/b", nil, x)), y),
		push(3, moves(move("refs/b", x, nil))),
	}
	for n := range len(list) + 1 {
		r, count, err := Replay(list[:n])
		if err != nil || count != n || r == nil {
			t.Fatalf("Replay of %d: %d, %v", n, count, err)
		}
		alike(t, r, list[:n])
		want, _ := made(t, list[:n]...)
		if !Same(r, want) {
			t.Errorf("Replay of %d isn't the same", n)
		}
		again, count, err := Replay(r.Entries(0, n+1))
		if err != nil || count != n || !Same(again, r) {
			t.Errorf("Replay of what Replay made of %d: %d, %v", n, count, err)
		}
	}
	for _, c := range []struct {
		e    entry.Entry
		want error
	}{
		{entry.Entry{}, api.ErrForm},
		{entry.Entry{Client: 9, Number: 1, Answer: 1}, api.ErrForm},
		{push(9, moves(move("refs/z", y, x))), api.ErrCas},
		{push(9, moves(move("refs/z", nil, tree())), blobs(64)...), api.ErrFull},
		{push(9, moves(move("refs/z", nil, blob("z")))), api.ErrMissing},
	} {
		for place := range len(list) + 1 {
			for _, behind := range []error{nil, api.ErrForm} { // the first one counts
				with := slices.Insert(slices.Clone(list), place, c.e)
				if behind != nil {
					with = append(with, entry.Entry{Answer: -1})
				}
				want := c.want
				if place == 0 && errors.Is(want, api.ErrFull) {
					want = api.ErrMissing // 64 objects are just as many as may be
				}
				if r, got, err := Replay(with); r != nil || got != place || !sameError(err, want) {
					t.Errorf("Replay with %v at %d: %v, %d, %v", c.e, place, r, got, err)
				}
			}
		}
	}
	for place := 1; place <= len(list); place++ {
		with := slices.Insert(slices.Clone(list), place, list[0])
		if r, got, err := Replay(with); r != nil || got != place || !errors.Is(err, api.ErrStale) {
			t.Errorf("Replay with the first entry again at %d: %v, %d, %v", place, r, got, err)
		}
		again := push(99, moves(move("refs/z", nil, x)), x)
		again.Client = 5
		if r, got, err := Replay(slices.Insert(slices.Clone(list), place, again)); r != nil || got != place || !errors.Is(err, api.ErrDup) {
			t.Errorf("Replay with an object again at %d: %v, %d, %v", place, r, got, err)
		}
	}
}

func TestReplayOfNone(t *testing.T) {
	for _, list := range [][]entry.Entry{nil, {}} {
		r, n, err := Replay(list)
		if r == nil || n != 0 || err != nil {
			t.Fatalf("%v, %d, %v", r, n, err)
		}
		alike(t, r, nil)
		r.Apply(refusal(0, 1, 1))
		alike(t, New(), nil)
	}
}

// A journal may be long: its entries aren't bounded, as refs and objects are.
func TestLongJournals(t *testing.T) {
	const n = 100000
	x := blob("x")
	list := []entry.Entry{push(1, moves(move("refs/a", nil, x)), x)}
	for k := range n {
		list = append(list, refusal(k%8, k+2, 1+k%10))
	}
	r, count, err := Replay(list)
	if err != nil || count != n+1 || r.Seq() != n+1 {
		t.Fatalf("%d, %v", count, err)
	}
	if number, answer := r.Last(7); number != n+1 || answer != 1+(n-1)%10 {
		t.Errorf("Last: %d, %d", number, answer)
	}
	if got := r.Entries(n, 5); len(got) != 1 || !entry.Same(got[0], list[n]) {
		t.Errorf("Entries: %v", got)
	}
	if r.Ref("refs/a") != idOf(x) || !Same(r, r.Copy()) {
		t.Error("it isn't as it was")
	}
	if r, place, err := Replay(append(list, list[0])); r != nil || place != n+1 || !errors.Is(err, api.ErrStale) {
		t.Errorf("with one more: %d, %v", place, err)
	}
}

// spoil writes over all of a list, and over the room behind it.
func spoil[T any](list []T, by T) {
	list = list[:cap(list)]
	for k := range list {
		list[k] = by
	}
}

func spoilEntry(e entry.Entry) {
	for _, text := range e.Objects {
		spoil(text, '!')
	}
	spoil(e.Objects, []byte("!"))
	spoil(e.Updates, api.Update{Ref: "refs/spoilt"})
}

// roomy is an entry whose lists have room behind them.
func roomy() entry.Entry {
	x := append(make([]byte, 0, 20), blob("x")...)
	y := append(make([]byte, 0, 20), blob("y")...)
	objects := append(make([][]byte, 0, 9), x, y)
	updates := append(make([]api.Update, 0, 9), move("refs/a", nil, x), move("refs/b", nil, y))
	return push(1, updates, objects...)
}

func TestWhatIsHandedInIsNotKept(t *testing.T) {
	e := roomy()
	want := plain{entry.Copy(e)}
	r := New()
	if err := r.Apply(e); err != nil {
		t.Fatal(err)
	}
	spoilEntry(e)
	alike(t, r, want)

	list := append(make([]entry.Entry, 0, 5), roomy(), refusal(1, 1, 1))
	want = want.behind(list[1])
	r, _, err := Replay(list)
	if err != nil {
		t.Fatal(err)
	}
	spoilEntry(list[0])
	spoil(list, entry.Entry{Client: 5})
	alike(t, r, want)
}

func TestWhatIsHandedInIsNotChanged(t *testing.T) {
	e := roomy()
	behind := e.Updates[:9][8]
	was := entry.Copy(e)
	r := New()
	for range 3 { // it fits, and then it doesn't
		r.Apply(e)
		Replay([]entry.Entry{e, refusal(0, 2, 1), e})
	}
	room := slices.Concat(e.Objects[0][2:20], e.Objects[1][2:20])
	if !entry.Same(e, was) || !bytes.Equal(room, make([]byte, 36)) || e.Updates[:9][8] != behind || e.Objects[:9][8] != nil {
		t.Errorf("%v became %v", was, e)
	}
}

func TestWhatIsAnsweredIsTheCallers(t *testing.T) {
	r := New()
	p := come(t, r, nil, roomy())
	p = come(t, r, p, refusal(1, 1, 1))
	p = come(t, r, p, push(2, moves(move("refs/c", nil, tree())), tree()))
	apart := r.Copy()
	for range 2 {
		for _, text := range r.Objects() {
			spoil(text, '!')
		}
		spoil(r.Objects(), []byte("!"))
		spoil(r.Refs(), Ref{Name: "refs/spoilt"})
		for _, e := range r.Entries(0, 9) {
			spoilEntry(e)
		}
		spoil(r.Entries(0, 9), entry.Entry{})
		alike(t, r, p)
		alike(t, apart, p)
	}
}

// No two lists of one answer share anything, nor the room behind them.
func TestListsOfOneAnswer(t *testing.T) {
	r, p := made(t, full(16, 64)...)
	list := r.Objects()
	for k, text := range list {
		spoil(text, '!')
		for n, other := range list[k+1:] {
			if !bytes.Equal(other, p.objects()[k+1+n]) {
				t.Fatalf("object %d became %q", k+1+n, other)
			}
		}
	}
	entries := r.Entries(0, 99)
	for k := range entries {
		spoilEntry(entries[k])
		for n, other := range entries[k+1:] {
			if !entry.Same(other, p[k+1+n]) {
				t.Fatalf("entry %d became %v", k+1+n, other)
			}
		}
	}
}

// Each order of some calls, on two repositories of which one becomes a copy of the other one now and then.
func TestEachOrder(t *testing.T) {
	x, y := blob("x"), blob("y")
	top := tree(x)
	first := commit("", top)
	entries := []entry.Entry{
		refusal(0, 1, 2),
		refusal(0, 2, 3),
		push(1, moves(move("refs/a", nil, x)), x),
		push(2, moves(move("refs/a", x, first)), top, first),
		push(2, moves(move("refs/b", nil, first)), first, x, top),
		push(3, moves(move("refs/a", x, nil), move("refs/b", nil, y)), y),
		push(3, moves(move("refs/b", first, y)), y),
		push(4, moves(move("refs/b", y, first)), x),
		{Client: 1, Number: 1, Updates: moves(move("refs/a", first, x))},
		{Client: 1, Number: 2, Updates: moves(move("refs/a", nil, x))},
		{Client: 9},
	}
	var each func(r, other *Repo, p, q plain, depth int)
	each = func(r, other *Repo, p, q plain, depth int) {
		alike(t, r, p)
		alike(t, other, q)
		if Same(r, other) != slices.EqualFunc(p, q, entry.Same) {
			t.Fatalf("Same of %v and %v: %v", p, q, Same(r, other))
		}
		if depth == 0 {
			return
		}
		for _, e := range entries {
			next := r.Copy()
			each(next, other, come(t, next, p, e), q, depth-1)
		}
		each(other, r.Copy(), q, p, depth-1)
	}
	each(New(), New(), nil, nil, 4)
}

// Long orders: whatever comes, what there is is as the plain one says, and what all refs hang on is there.
func TestLongOrders(t *testing.T) {
	fits, faults := 0, map[error]int{}
	for seed := range 60 {
		c := &chance{uint64(seed)}
		pool := c.pool(10 + c.below(80))
		refs := names(2 + c.below(24))
		r, p := New(), plain(nil)
		for range 80 {
			e := c.entry(p, pool, refs)
			if want := p.fault(e); want != nil {
				faults[want]++
			} else {
				fits++
			}
			p = come(t, r, p, e)
			if !plain(r.Entries(0, r.Seq()+1)).whole() {
				t.Fatalf("what refs hang on isn't there: %v", p)
			}
			if c.below(10) == 0 {
				r = r.Copy()
			}
		}
		alike(t, r, p)
		again, n, err := Replay(p)
		if err != nil || n != len(p) || !Same(again, r) {
			t.Fatalf("Replay: %d, %v", n, err)
		}
		alike(t, again, p)
	}
	if fits < 1500 {
		t.Errorf("%d fit", fits)
	}
	for _, err := range []error{api.ErrForm, api.ErrStale, api.ErrCas, api.ErrFull, api.ErrDup, api.ErrMissing} {
		if faults[err] < 30 {
			t.Errorf("%v: just %d", err, faults[err])
		}
	}
}

// What all refs hang on is asked by what the repository tells, not by what it keeps.
func TestWhatRefsHangOnIsThere(t *testing.T) {
	for seed := range 30 {
		c := &chance{uint64(1000 + seed)}
		pool := c.pool(64)
		r, p := New(), plain(nil)
		for range 60 {
			p = come(t, r, p, c.entry(p, pool, names(10)))
			var told []api.Update
			for _, ref := range r.Refs() {
				told = append(told, api.Update{Ref: ref.Name, New: ref.Id})
			}
			if !(plain{{Updates: told, Objects: r.Objects()}}).whole() {
				t.Fatalf("what refs hang on isn't there: %v, %q", r.Refs(), r.Objects())
			}
		}
	}
}
