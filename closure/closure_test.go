package closure

import (
	"bytes"
	"slices"
	"testing"

	"cartage/api"
)

// wantPlain wants of all calls what the plain one says, and answers it.
func wantPlain(t *testing.T, objects [][]byte, roots []api.Oid) answers {
	t.Helper()
	want := plain(objects, roots)
	if got := asked(objects, roots); !got.same(want) {
		t.Fatalf("of %q from %x: %v, not %v", objects, roots, got, want)
	}
	return want
}

// want is what is told of a case: texts stand for their ids.
type want struct {
	what                           string
	objects, roots                 [][]byte
	reached, missing, wrong, loose [][]byte
}

func (w want) hold(t *testing.T) {
	t.Helper()
	told := answers{
		rising(idsOf(w.reached...)...), rising(idsOf(w.missing...)...), rising(idsOf(w.wrong...)...), rising(idsOf(w.loose...)...),
		w.missing == nil && w.wrong == nil,
	}
	if got := wantPlain(t, w.objects, idsOf(w.roots...)); !got.same(told) {
		t.Errorf("%s: %v, not %v", w.what, got, told)
	}
}

type list = [][]byte

func TestExample(t *testing.T) {
	gone := blob("x")
	v1 := tag("v1", plainId(gone))
	roots := idsOf(v1)
	if got := Reached(list{v1}, roots); !slices.Equal(got, idsOf(v1)) {
		t.Errorf("reached: %x", got)
	}
	if got := Missing(list{v1}, roots); !slices.Equal(got, idsOf(gone)) {
		t.Errorf("missing: %x", got)
	}
	if got := Wrong(list{v1}, roots); len(got) != 0 {
		t.Errorf("wrong: %x", got)
	}
	if got := Loose(list{v1}, roots); len(got) != 0 {
		t.Errorf("loose: %x", got)
	}
	if Whole(list{v1}, roots) {
		t.Error("whole, but the blob is missing")
	}
	if !Whole(list{v1, gone}, roots) {
		t.Error("not whole, but the blob is there")
	}
}

func TestWhatIsReached(t *testing.T) {
	x, y := blob("x"), blob("y")
	both, none := tree(plainId(x), plainId(y)), tree()
	first := commit("first", plainId(both))
	next := commit("next", plainId(none), plainId(first))
	merge := commit("merge", plainId(both), plainId(next), plainId(first))
	v1, v2 := tag("v1", plainId(merge)), tag("v2", plainId(x))
	all := list{v2, merge, x, both, next, none, v1, first, y}
	for _, w := range []want{
		{what: "nothing"},
		{what: "no roots", objects: all, loose: all},
		{what: "no objects", roots: list{x, first}, missing: list{x, first}},
		{what: "a blob", objects: all, roots: list{x}, reached: list{x}, loose: list{v2, merge, both, next, none, v1, first, y}},
		{what: "an empty tree", objects: all, roots: list{none}, reached: list{none}, loose: list{v2, merge, x, both, next, v1, first, y}},
		{what: "a tree", objects: all, roots: list{both}, reached: list{both, x, y}, loose: list{v2, merge, next, none, v1, first}},
		{what: "a first commit", objects: all, roots: list{first}, reached: list{first, both, x, y}, loose: list{v2, merge, next, none, v1}},
		{what: "a commit behind", objects: all, roots: list{next}, reached: list{next, none, first, both, x, y}, loose: list{v2, merge, v1}},
		{what: "a tag", objects: all, roots: list{v1}, reached: list{v1, merge, next, none, first, both, x, y}, loose: list{v2}},
		{what: "all roots", objects: all, roots: all, reached: all},
		{what: "two roots", objects: all, roots: list{v2, none}, reached: list{v2, x, none}, loose: list{merge, both, next, v1, first, y}},
		{what: "a root twice", objects: all, roots: list{x, x, x}, reached: list{x}, loose: list{v2, merge, both, next, none, v1, first, y}},
		{what: "a root below another one", objects: list{x, y, both}, roots: list{y, both}, reached: list{x, y, both}},
		{what: "an object twice", objects: list{v2, x, v2, x, y, y}, roots: list{v2}, reached: list{v2, x}, loose: list{y}},
		{what: "a root that isn't there", objects: list{x}, roots: list{y, x}, reached: list{x}, missing: list{y}},
		{what: "what a missing object would name", objects: list{v1, x, both, first}, roots: list{v1}, reached: list{v1}, missing: list{merge}, loose: list{x, both, first}},
		{what: "a tree's last entry missing", objects: list{both, x}, roots: list{both}, reached: list{both, x}, missing: list{y}},
		{what: "a tree's first entry missing", objects: list{both, y}, roots: list{both}, reached: list{both, y}, missing: list{x}},
		{what: "a commit's tree missing", objects: list{first, x, y}, roots: list{first}, reached: list{first}, missing: list{both}, loose: list{x, y}},
		{what: "a parent missing", objects: list{merge, first, both, x, y}, roots: list{merge}, reached: list{merge, first, both, x, y}, missing: list{next}},
		{what: "what isn't reached lacks something", objects: list{v1, first, both, x}, roots: list{x}, reached: list{x}, loose: list{v1, first, both}},
	} {
		w.hold(t)
	}
}

func TestWhatIsWrong(t *testing.T) {
	x := blob("x")
	none := tree()
	good := commit("good", plainId(none))
	v1 := tag("v1", plainId(x))
	broken := none[:0]
	cut := tree(plainId(x))[:20]
	ofBlob, ofCommit, ofTag := commit("", plainId(x)), commit("", plainId(good)), commit("", plainId(v1))
	ofBroken, ofCut, ofNone := commit("", plainId(broken)), commit("", plainId(cut)), commit("", api.Oid{})
	anyParents := commit("", plainId(none), plainId(x), plainId(v1), plainId(none), plainId(cut))
	blobAndTree := commit("", plainId(x), plainId(none))
	behind := commit("", plainId(none), plainId(ofBlob))
	deep := tag("", plainId(tree(plainId(x), plainId(behind))))
	for _, w := range []want{
		{what: "a commit of a tree", objects: list{good, none}, roots: list{good}, reached: list{good, none}},
		{what: "a commit of a blob", objects: list{ofBlob, x}, roots: list{ofBlob}, reached: list{ofBlob, x}, wrong: list{ofBlob}},
		{what: "a commit of a commit", objects: list{ofCommit, good, none}, roots: list{ofCommit}, reached: list{ofCommit, good, none}, wrong: list{ofCommit}},
		{what: "a commit of a tag", objects: list{ofTag, v1, x}, roots: list{ofTag}, reached: list{ofTag, v1, x}, wrong: list{ofTag}},
		{what: "a commit of no bytes", objects: list{ofBroken, broken}, roots: list{ofBroken}, reached: list{ofBroken, broken}, wrong: list{ofBroken}},
		{what: "a commit of a cut tree", objects: list{ofCut, cut, x}, roots: list{ofCut}, reached: list{ofCut, cut}, wrong: list{ofCut}, loose: list{x}},
		{what: "a blob that isn't there is missing, not wrong", objects: list{ofBlob}, roots: list{ofBlob}, reached: list{ofBlob}, missing: list{x}},
		{what: "wrong, but not reached", objects: list{ofBlob, x, good, none}, roots: list{x, good}, reached: list{x, good, none}, loose: list{ofBlob}},
		{what: "a commit that isn't there", objects: list{x}, roots: list{ofBlob, x}, reached: list{x}, missing: list{ofBlob}},
		{what: "parents of any kind", objects: list{anyParents, none, x, v1, cut}, roots: list{anyParents}, reached: list{anyParents, none, x, v1, cut}},
		{what: "a tree as parent alone", objects: list{blobAndTree, x, none}, roots: list{blobAndTree}, reached: list{blobAndTree, x, none}, wrong: list{blobAndTree}},
		{what: "entries of any kind", objects: list{tree(idsOf(x, none, good, v1, cut)...), x, none, good, v1, cut}, roots: list{tree(idsOf(x, none, good, v1, cut)...)}, reached: list{tree(idsOf(x, none, good, v1, cut)...), x, none, good, v1, cut}},
		{what: "a tag of a wrong commit", objects: list{tag("", plainId(ofBlob)), ofBlob, x}, roots: list{tag("", plainId(ofBlob))}, reached: list{tag("", plainId(ofBlob)), ofBlob, x}, wrong: list{ofBlob}},
		{what: "wrong far behind", objects: list{x, deep, tree(plainId(x), plainId(behind)), behind, ofBlob, none}, roots: list{deep}, reached: list{x, deep, tree(plainId(x), plainId(behind)), behind, ofBlob, none}, wrong: list{ofBlob}},
		{what: "all of these", objects: list{ofBlob, ofCommit, ofTag, ofBroken, ofCut, good, x, v1, none, broken, cut}, roots: list{ofBlob, ofCommit, ofTag, ofBroken, ofCut}, reached: list{ofBlob, ofCommit, ofTag, ofBroken, ofCut, good, x, v1, none, broken, cut}, wrong: list{ofBlob, ofCommit, ofTag, ofBroken, ofCut}},
	} {
		w.hold(t)
	}
	noughts := wantPlain(t, list{ofNone}, idsOf(ofNone))
	if !slices.Equal(noughts.missing, make([]api.Oid, 1)) || len(noughts.wrong) != 0 || noughts.whole {
		t.Errorf("a commit of noughts: %v", noughts)
	}
}

// What can't be parsed is there, names nothing, and is of no kind.
func TestWhatCanNotBeParsed(t *testing.T) {
	x := blob("x")
	none := tree()
	long := append(tag("", plainId(x)), make([]byte, 300)...)
	twice := slices.Concat(tree(plainId(x)), tree(plainId(x))[1:])
	manyParents := commit("", plainId(none), slices.Repeat(idsOf(x), 5)...)
	broken := list{
		{}, {0}, []byte("x"), []byte("T"), slices.Concat([]byte("B"), tag("", plainId(x))[1:]),
		blob(string(make([]byte, 300))), blob(string(make([]byte, 1<<16))), long, twice, manyParents,
		tag("", plainId(x))[:32], tree(plainId(x))[:34], commit("", plainId(x))[:33], commit("", plainId(x), plainId(x))[:65],
	}
	for _, b := range broken {
		holder := tree(plainId(b))
		want{what: "a root", objects: list{x, b}, roots: list{b}, reached: list{b}, loose: list{x}}.hold(t)
		want{what: "named", objects: list{holder, b, x}, roots: list{holder}, reached: list{holder, b}, loose: list{x}}.hold(t)
		want{what: "loose", objects: list{b, x, b}, roots: list{x}, reached: list{x}, loose: list{b}}.hold(t)
		want{what: "missing", objects: list{holder, x}, roots: list{holder}, reached: list{holder}, missing: list{b}, loose: list{x}}.hold(t)
		bad := commit("", plainId(b))
		want{what: "a commit's", objects: list{b, bad}, roots: list{bad}, reached: list{b, bad}, wrong: list{bad}}.hold(t)
	}
}

// No text at all has an id, too: that of no bytes.
func TestNilTexts(t *testing.T) {
	want{what: "nil", objects: list{nil, blob("x")}, roots: list{{}}, reached: list{{}}, loose: list{blob("x")}}.hold(t)
	want{what: "nil twice", objects: list{nil, {}}, roots: nil, loose: list{{}}}.hold(t)
	want{what: "no list", objects: nil, roots: list{nil}, missing: list{{}}}.hold(t)
	if got := asked(nil, make([]api.Oid, 3)); !slices.Equal(got.missing, make([]api.Oid, 1)) || got.whole || len(got.reached)+len(got.wrong)+len(got.loose) > 0 {
		t.Errorf("from noughts: %v", got)
	}
}

// Each choice of eight objects that hang on one another, from each choice of them as roots.
func TestEachChoice(t *testing.T) {
	x := blob("x")
	low := tree(plainId(x))
	high := tree(plainId(low), plainId(x))
	first := commit("1", plainId(low))
	bad := commit("2", plainId(x), plainId(first))
	v1 := tag("v1", plainId(bad))
	cut := tag("", plainId(high))[:20]
	odd := commit("3", plainId(cut), plainId(v1), plainId(high))
	all := list{odd, x, first, high, cut, v1, bad, low}
	chosen := func(choice int) list {
		var some list
		for k, text := range all {
			if choice>>k&1 == 1 {
				some = append(some, text)
			}
		}
		return some
	}
	for there := range 256 {
		for from := range 256 {
			wantPlain(t, chosen(there), idsOf(chosen(from)...))
		}
	}
}

func TestManyGraphs(t *testing.T) {
	c := &chance{1}
	var whole, wrong, missing, loose, both int
	for range 6000 {
		objects, roots := c.objects(1 + c.below(14))
		told := wantPlain(t, objects, roots)
		if told.whole && len(told.reached) > 3 {
			whole++
		}
		wrong += min(len(told.wrong), 1)
		missing += min(len(told.missing), 1)
		loose += min(len(told.loose), 1)
		if len(told.missing) > 0 && len(told.wrong) > 0 {
			both++
		}
	}
	for k, n := range []int{whole, wrong, missing, loose, both} {
		if n < 200 {
			t.Errorf("case %d: just %d graphs", k, n)
		}
	}
}

// A chain as long as may be: far more levels than may be promised of calls within calls.
func TestLongChains(t *testing.T) {
	none := tree()
	objects := list{none}
	last := plainId(blob("gone"))
	for k := range 1 << 17 {
		var b []byte
		if k%2 == 0 {
			b = tag("", last)
		} else {
			b = commit("", plainId(none), last)
		}
		objects = append(objects, b)
		last = plainId(b)
	}
	slices.Reverse(objects)
	got := asked(objects, []api.Oid{last})
	want := answers{reached: rising(idsOf(objects...)...), missing: idsOf(blob("gone"))}
	if !got.same(want) {
		t.Errorf("%d reached, %x missing, %d wrong, %d loose", len(got.reached), got.missing, len(got.wrong), len(got.loose))
	}
	objects = append(objects, blob("gone"))
	if !Whole(objects, []api.Oid{last}) {
		t.Error("the chain isn't whole")
	}
	if got := Loose(objects, idsOf(none)); len(got) != len(objects)-1 {
		t.Errorf("%d are loose", len(got))
	}
}

// Eight ways to each object from the one above it: each is gone through once.
func TestManyWays(t *testing.T) {
	last := blob("x")
	objects := list{last}
	for range 60 {
		last = tree(slices.Repeat(idsOf(last), 8)...)
		objects = append(objects, last)
	}
	want{what: "whole", objects: objects, roots: list{last}, reached: objects}.hold(t)
	want{what: "the lowest missing", objects: objects[1:], roots: list{last}, reached: objects[1:], missing: objects[:1]}.hold(t)
}

func TestManyObjectsAndRoots(t *testing.T) {
	var objects list
	for k := range 20000 {
		objects = append(objects, blob(string([]byte{byte(k >> 8), byte(k)})))
	}
	ids := idsOf(objects...)
	roots := slices.Repeat(ids[5000:], 3)
	got := asked(objects[:15000], roots)
	want := answers{reached: rising(ids[5000:15000]...), missing: rising(ids[15000:]...), loose: rising(ids[:5000]...)}
	if !got.same(want) {
		t.Errorf("%d reached, %d missing, %d wrong, %d loose, %v", len(got.reached), len(got.missing), len(got.wrong), len(got.loose), got.whole)
	}
}

// In whichever order they are given, and each time.
func TestTheSameEachTime(t *testing.T) {
	c := &chance{2}
	for range 300 {
		objects, roots := c.objects(30)
		before := asked(objects, roots)
		for range 3 {
			if got := asked(objects, roots); !got.same(before) {
				t.Fatalf("%v, and then %v", before, got)
			}
			slices.Reverse(objects)
			slices.Reverse(roots)
		}
		if got := asked(slices.Concat(objects, objects), slices.Concat(roots, roots)); !got.same(before) {
			t.Fatalf("all twice: %v, not %v", got, before)
		}
	}
}

func TestNothingThatIsGivenIsChangedOrShared(t *testing.T) {
	c := &chance{3}
	for range 200 {
		texts, ids := c.objects(12)
		var objects list
		for _, text := range texts {
			objects = append(objects, append(bytes.Clone(text), "the room behind"...)[:len(text)])
		}
		objects = append(objects, blob("the room behind"))[:len(texts)]
		roots := append(slices.Clone(ids), slices.Repeat(ids, 4)...)[:len(ids)]
		held, heldRoots := deep(objects[:cap(objects)]), slices.Clone(roots[:cap(roots)])
		before := plain(texts, ids)
		got, again := asked(objects, roots), asked(objects, roots)
		for _, ids := range [][]api.Oid{got.reached, got.missing, got.wrong, got.loose} {
			clear(ids[:cap(ids)])
			_ = append(ids, api.Oid{1}, api.Oid{2})
		}
		if !again.same(before) || !asked(objects, roots).same(before) {
			t.Fatalf("writing over an answer changed another one: %v", again)
		}
		if !slices.EqualFunc(deep(objects[:cap(objects)]), held, bytes.Equal) || !slices.Equal(roots[:cap(roots)], heldRoots) {
			t.Fatal("what was given was changed")
		}
		for _, text := range objects {
			clear(text[:cap(text)])
		}
		clear(objects)
		clear(roots[:cap(roots)])
		if !again.same(before) {
			t.Fatalf("writing over what was given changed the answer: %v", again)
		}
	}
}

// deep is all bytes of texts, and those in the room behind them.
func deep(texts list) list {
	var all list
	for _, text := range texts {
		all = append(all, bytes.Clone(text[:cap(text)]))
	}
	return all
}
