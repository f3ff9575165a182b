package push

import (
	"bytes"
	"errors"
	"math"
	"slices"
	"strings"
	"testing"

	"cartage/api"
	"cartage/entry"
	"cartage/object"
	"cartage/repo"
)

func TestExample(t *testing.T) {
	x := blob("x")
	p := Push{Client: 1, Number: 1, Updates: []api.Update{{Ref: "refs/a", New: idOf(x)}}, Pack: []byte("\x01\x00\x00\x02bx")}
	r := repo.New()
	e, is, err := Judge(r, p)
	if !entry.Same(e, entry.Entry{Client: 1, Number: 1, Answer: api.OK, Updates: p.Updates, Objects: [][]byte{x}}) || !is || err != nil {
		t.Errorf("Judge: %v, %v, %v", e, is, err)
	}
	if r.Seq() != 0 {
		t.Errorf("Judge did it: %v", r.Entries(0, 9))
	}
	answer, is, err := Do(r, p)
	if answer != api.OK || !is || err != nil {
		t.Errorf("Do: %d, %v, %v", answer, is, err)
	}
	if list := r.Entries(0, 9); len(list) != 1 || !entry.Same(list[0], e) || r.Ref("refs/a") != idOf(x) || !r.Has(idOf(x)) {
		t.Errorf("Do did %v", list)
	}
}

func TestNoRepository(t *testing.T) {
	x := blob("x")
	for what, p := range map[string]Push{
		"a right one": ask(1, moves(move("refs/a", nil, x)), x),
		"client 8":    {Client: 8, Number: 1},
		"nothing":     {},
	} {
		e, is, err := Judge(nil, p)
		if !entry.Same(e, entry.Entry{}) || is || !sameError(err, api.ErrNone) {
			t.Errorf("%s: Judge: %v, %v, %v", what, e, is, err)
		}
		answer, is, err := Do(nil, p)
		if answer != 0 || is || !sameError(err, api.ErrNone) {
			t.Errorf("%s: Do: %d, %v, %v", what, answer, is, err)
		}
	}
}

// A Repo that New didn't make has no entries, and judges as one that it made.
func TestZeroRepository(t *testing.T) {
	x := blob("x")
	var r repo.Repo
	list := come(t, "a refusal", &r, nil, ask(1, moves(move("refs/a", x, nil)), x))
	list = come(t, "an object", &r, list, ask(2, moves(move("refs/a", nil, x)), x))
	if len(list) != 2 || r.Seq() != 2 {
		t.Errorf("%v", list)
	}
}

// Wrong clients and numbers are told ahead of all else, and nothing is answered.
func TestClientsAndNumbers(t *testing.T) {
	x := blob("x")
	updates := moves(move("refs/z", nil, x))
	for what, list := range map[string]plain{"at first": nil, "later": full(1, 2)} {
		for _, client := range []int{-1, 8, 9, 64, 255, 256, 1 << 32, -1 << 32, math.MinInt, math.MaxInt} {
			refused(t, what, list, Push{Client: client, Number: 101, Updates: updates, Pack: packOf(x)}, api.ErrForm)
			refused(t, what, list, Push{Client: client, Number: 1}, api.ErrForm)
			refused(t, what, list, Push{Client: client}, api.ErrForm)
		}
		for _, number := range []int{0, -1, -100, 1<<40 + 1, 1 << 62, math.MinInt, math.MaxInt} {
			for client := range 8 {
				refused(t, what, list, Push{Client: client, Number: number, Updates: updates, Pack: packOf(x)}, api.ErrForm)
			}
			refused(t, what, list, Push{Number: number}, api.ErrForm)
		}
		for client := range 8 {
			for _, number := range []int{101, 1 << 20, 1<<40 - 1, 1 << 40} {
				answered(t, what, list, Push{Client: client, Number: number, Updates: updates, Pack: packOf(x)}, api.OK)
				answered(t, what, list, Push{Client: client, Number: number}, api.Malformed)
			}
		}
	}
	answered(t, "the first number", nil, ask(1, updates, x), api.OK)
}

// The last number is answered what it was, whatever is asked by it now; one below is stale.
func TestNumbersThatWere(t *testing.T) {
	x := blob("x")
	for answer := range 11 {
		list := plain{{Client: 2, Number: 4, Answer: 9}, {Client: 3, Number: 7, Answer: 8}, {Client: 3, Number: 9, Answer: answer}}
		if answer == api.OK {
			list[2].Updates, list[2].Objects = moves(move("refs/a", nil, x)), [][]byte{x}
		}
		for _, p := range []Push{
			{Client: 3, Number: 9},
			{Client: 3, Number: 9, Updates: moves(move("refs/a", nil, x)), Pack: packOf(x)},
			{Client: 3, Number: 9, Updates: moves(move("refs/b", nil, x)), Pack: packOf()},
			{Client: 3, Number: 9, Updates: moves(move("b", x, x)), Pack: bytes.Repeat(x, 2000)},
		} {
			r := made(t, list)
			e, is, err := Judge(r, p)
			if !entry.Same(e, entry.Entry{Client: 3, Number: 9, Answer: answer}) || is || err != nil {
				t.Errorf("again, by other means: %v, %v, %v", e, is, err)
			}
			if got, is, err := Do(r, p); got != answer || is || err != nil {
				t.Errorf("again, by other means: %d, %v, %v", got, is, err)
			}
			come(t, "again", r, list, p)
			for _, number := range []int{1, 6, 7, 8} {
				p.Number = number
				refused(t, "below", list, p, api.ErrStale)
			}
			p.Client, p.Number = 2, 3
			refused(t, "below another client's", list, p, api.ErrStale)
		}
		answered(t, "above", list, Push{Client: 3, Number: 10, Updates: moves(move("refs/b", nil, x)), Pack: packOf(x)}, api.OK)
		answered(t, "above", list, Push{Client: 3, Number: 10}, api.Malformed)
		answered(t, "above another client's", list, Push{Client: 2, Number: 5, Updates: moves(move("refs/b", nil, x)), Pack: packOf(x)}, api.OK)
		answered(t, "a client who never asked", list, ask(1, moves(move("refs/b", nil, x)), x), api.OK)
	}
}

func TestTheGreatestNumber(t *testing.T) {
	x := blob("x")
	list := plain{{Number: 1 << 40, Answer: 2}}
	come(t, "again", made(t, list), list, Push{Number: 1 << 40})
	refused(t, "one below", list, Push{Number: 1<<40 - 1}, api.ErrStale)
	refused(t, "one above", list, Push{Number: 1<<40 + 1}, api.ErrForm)
	answered(t, "another client", list, Push{Client: 1, Number: 1, Updates: moves(move("refs/a", nil, x)), Pack: packOf(x)}, api.OK)
}

// A push that is done twice is done once.
func TestAgain(t *testing.T) {
	x, y := blob("x"), blob("y")
	r := repo.New()
	var list plain
	for k, p := range []Push{
		ask(1, moves(move("refs/a", nil, x)), x),
		ask(2, moves(move("refs/a", nil, x)), x),
		ask(3, moves(move("refs/a", x, y)), x, y),
		ask(4, nil),
		ask(5, moves(move("refs/b", nil, blob("z")))),
		ask(6, moves(move("refs/a", y, nil))),
	} {
		want := []int{0, 2, 0, 1, 3, 0}[k]
		for again := range 3 {
			list = come(t, "again", r, list, p)
			if answer, is, err := Do(r, p); answer != want || is || err != nil {
				t.Errorf("push %d, time %d: %d, %v, %v, not %d", k, again, answer, is, err, want)
			}
		}
		if r.Seq() != k+1 {
			t.Fatalf("push %d: %d entries", k, r.Seq())
		}
	}
}

func TestUpdatesThatAreNotRight(t *testing.T) {
	x, y := blob("x"), blob("y")
	good := move("refs/b", nil, x)
	many := func(n int) []api.Update {
		var list []api.Update
		for _, name := range names(n) {
			list = append(list, move(name+"/more", nil, x))
		}
		return list
	}
	list := plain{done(5, moves(move("refs/a", nil, x)), x)}
	for what, updates := range map[string][]api.Update{
		"none":                       nil,
		"empty":                      {},
		"9":                          many(9),
		"255":                        slices.Repeat(moves(good), 255),
		"256":                        slices.Repeat(moves(good), 256),
		"257":                        slices.Repeat(moves(good), 257),
		"a ref twice":                {good, good},
		"a ref there and back":       {move("refs/a", x, y), move("refs/a", y, x)},
		"a ref twice, far away":      {good, move("refs/c", nil, x), move("refs/d", nil, x), good},
		"from an id to itself":       {move("refs/a", x, x)},
		"from noughts to noughts":    {move("refs/b", nil, nil)},
		"no name":                    {move("", nil, x)},
		"one part":                   {move("b", nil, x)},
		"an empty part":              {move("refs//b", nil, x)},
		"a slash last":               {move("refs/b/", nil, x)},
		"a part of dots":             {move("refs/..", nil, x)},
		"another letter":             {move("refs/B", nil, x)},
		"another rune":               {move("refs/é", nil, x)},
		"25 bytes":                   {move("refs/"+strings.Repeat("b", 20), nil, x)},
		"65536 bytes":                {move("refs/"+strings.Repeat("b", 65531), nil, x)},
		"the last one":               {good, move("refs/c", nil, x), move("c", nil, x)},
		"one that is elsewhere, too": {move("refs/a", nil, y), move("c", nil, x)},
	} {
		answered(t, what, list, ask(6, updates, x), api.Malformed)
		answered(t, what+", at first", nil, ask(1, updates, x), api.Malformed)
		// The updates are asked ahead of the pack.
		answered(t, what+", too large", list, Push{Number: 6, Updates: updates, Pack: make([]byte, 2001)}, api.Malformed)
		answered(t, what+", base missing", list, Push{Number: 6, Updates: updates, Pack: packed(from(y, x))}, api.Malformed)
	}
	answered(t, "8", list, ask(6, many(8), y), api.OK)
	answered(t, "24 bytes", list, ask(6, moves(move("refs/"+strings.Repeat("b", 19), nil, x)), y), api.OK)
}

// chain is a pack of a base and so many deltas, one upon the other.
func chain(n int) []byte {
	items := [][]byte{told(wide(0, 50))}
	for k := range n {
		items = append(items, from(wide(k, 50), wide(k+1, 50)))
	}
	return packed(items...)
}

func TestPacksThatCanNotBeDecoded(t *testing.T) {
	x, y, z := blob("x"), blob("y"), blob("z")
	base := wide(0, 300)
	known := wide(99, 300)
	loose := blob("no ref hangs on it")
	list := plain{done(1, moves(move("refs/a", nil, x)), x, known, loose)}
	greater := []byte("\x01\x2c\x01\x2d\xff\x00\x00\xff\x00\x7f\x2e\x00\xfe\x01.") // 300 to 301 bytes
	for _, c := range []struct {
		what string
		pack []byte
		want int
	}{
		{"2001 bytes", append(packOf(y), make([]byte, 2000-5)...), api.TooLarge},
		{"2001 bytes that could be read", packOf(wide(0, 300), wide(1, 300), wide(2, 300), wide(3, 300), wide(4, 300), wide(5, 300), wide(6, 179)), api.TooLarge},
		{"2001 bytes of another kind", bytes.Repeat([]byte{9}, 2001), api.TooLarge},
		{"65536 bytes", make([]byte, 65536), api.TooLarge},
		{"an object of 301 bytes", packOf(y, wide(0, 301)), api.TooLarge},
		{"an object of 301 bytes that tells of a wrong kind", packOf(make([]byte, 301)), api.TooLarge},
		{"a delta's object of 301 bytes", packed(told(base), toldBy(base, greater)), api.TooLarge},
		{"a delta's object of 65535 bytes", packed(toldBy(known, []byte("\x01\x2c\xff\xff"))), api.TooLarge},
		{"a base that isn't there", packed(from(z, y)), api.MissingObject},
		{"a base that is behind", packed(from(z, y), told(z)), api.MissingObject},
		{"a base that is the object", packed(from(y, y)), api.MissingObject},
		{"a base near one that is known", packed(told(z), from(append(slices.Clone(x), 'x'), y)), api.MissingObject},
		{"a base of noughts", packed(slices.Concat([]byte{1}, make([]byte, 32), short([]byte("\x00\x00\x00\x02\x02bx")))), api.MissingObject},
		{"no bytes", nil, api.Malformed},
		{"empty", []byte{}, api.Malformed},
		{"fewer items than told", []byte{1}, api.Malformed},
		{"65 items", packOf(blobs(65)...), api.Malformed},
		{"65 items that aren't there", []byte{65}, api.Malformed},
		{"255 items that aren't there", []byte{255}, api.Malformed},
		{"another kind", []byte("\x01\x02\x00\x02by"), api.Malformed},
		{"kind 255", []byte("\x01\xff\x00\x02by"), api.Malformed},
		{"an object that ends too soon", packOf(y)[:4], api.Malformed},
		{"a delta that ends too soon", packed(from(x, y)[:36]), api.Malformed},
		{"a base's id that ends too soon", packed(from(z, y)[:32]), api.Malformed},
		{"six deep", chain(6), api.Malformed},
		{"a delta of a base of another length", packed(toldBy(x, []byte("\x00\x03\x00\x02\x02by"))), api.Malformed},
		{"a delta with a byte 0", packed(toldBy(x, []byte("\x00\x02\x00\x02\x00by"))), api.Malformed},
		{"a delta with a byte 128", packed(toldBy(x, []byte("\x00\x02\x00\x02\x80\x00\x00"))), api.Malformed},
		{"a delta without its lengths", packed(toldBy(x, []byte("\x00\x02\x00"))), api.Malformed},
		{"a delta that ends within a step", packed(toldBy(x, []byte("\x00\x02\x00\x02\x03by"))), api.Malformed},
		{"a delta that is shorter", packed(toldBy(x, []byte("\x00\x02\x00\x03\x02by"))), api.Malformed},
		{"a delta that is longer", packed(toldBy(x, []byte("\x00\x02\x00\x02\x03byy"))), api.Malformed},
		{"a delta beyond its base", packed(toldBy(x, []byte("\x00\x02\x00\x02\x82\x00\x01"))), api.Malformed},
		{"an object of no bytes", packOf(nil), api.Malformed},
		{"an object of another letter", packOf([]byte("x")), api.Malformed},
		{"an object that isn't right", packOf(slices.Concat([]byte("t\x01a"), make([]byte, 32), []byte("\x01a"), make([]byte, 32))), api.Malformed},
		{"a commit that ends too soon", packOf([]byte("c1234")), api.Malformed},
		{"an object twice", packOf(y, z, y), api.Malformed},
		{"a known object twice", packOf(x, y, x), api.Malformed},
		{"an object twice, told by a delta", packed(told(y), told(z), from(z, y)), api.Malformed},
		{"something left", append(packOf(y), 0), api.Malformed},
		{"something left behind none", []byte{0, 0}, api.Malformed},
		{"the first fault: missing, then an object twice", packed(told(y), from(z, x), told(y)), api.MissingObject},
		{"the first fault: an object twice, then missing", packed(told(y), told(y), from(z, x)), api.Malformed},
		{"the first fault: too large, then missing", packed(told(wide(0, 301)), from(z, x)), api.TooLarge},
		{"the first fault: missing, then too large", packed(from(z, x), told(wide(0, 301))), api.MissingObject},
		{"the first fault: too large, and left", append(packOf(wide(0, 301)), 0), api.TooLarge},
		{"none", []byte{0}, api.OK},
		{"2000 bytes", packOf(wide(0, 300), wide(1, 300), wide(2, 300), wide(3, 300), wide(4, 300), wide(5, 300), wide(6, 178)), api.OK},
		{"five deep", chain(5), api.OK},
		{"a known base", packed(from(x, y)), api.OK},
		{"a known base on which no ref hangs", packed(from(loose, y)), api.OK},
		{"a known base that stands in the pack, too", packed(told(x), from(x, y)), api.OK},
		{"a base that is ahead", packed(told(y), from(y, z)), api.OK},
		{"what is known already, from what is known", packed(from(known, x)), api.OK},
	} {
		p := Push{Number: 2, Updates: moves(move("refs/b", nil, x)), Pack: c.pack}
		answered(t, c.what, list, p, c.want)
		// The pack is asked ahead of where refs are, and of what they hang on.
		p.Updates = moves(move("refs/b", nil, blob("nowhere")), move("refs/c", y, x))
		if want := c.want; want == api.OK {
			answered(t, c.what+", elsewhere", list, p, api.CasMismatch)
		} else {
			answered(t, c.what+", elsewhere", list, p, want)
		}
	}
}

// What is known is what the repository has, and nothing else: no two repositories share it.
func TestKnownObjects(t *testing.T) {
	x, y := blob("x"), blob("y")
	p := Push{Number: 2, Updates: moves(move("refs/b", nil, y)), Pack: packed(from(x, y))}
	with := plain{done(1, moves(move("refs/a", nil, x)), x)}
	without := plain{done(1, moves(move("refs/a", nil, tree())), tree())}
	for range 2 {
		answered(t, "it is known", with, p, api.OK)
		answered(t, "it isn't", without, p, api.MissingObject)
	}
	gone := append(slices.Clip(with), done(2, moves(move("refs/a", x, nil))))
	p.Number = 3
	answered(t, "no ref hangs on it any more", gone, p, api.OK)
}

func TestRefsThatAreElsewhere(t *testing.T) {
	x, y := blob("x"), blob("y")
	near := move("refs/a", x, y)
	near.Old[31]++
	list := plain{
		done(1, moves(move("refs/a", nil, x), move("refs/b", nil, y), move("refs/c", nil, x)), x, y),
		done(2, moves(move("refs/c", x, nil))),
	}
	for _, c := range []struct {
		what    string
		updates []api.Update
		want    int
	}{
		{"where it is", moves(move("refs/a", x, y)), api.OK},
		{"where it is, and away", moves(move("refs/a", x, nil)), api.OK},
		{"where another one is", moves(move("refs/a", y, x)), api.CasMismatch},
		{"near where it is", moves(near), api.CasMismatch},
		{"where nothing is", moves(move("refs/a", blob("z"), y)), api.CasMismatch},
		{"it is there", moves(move("refs/a", nil, y)), api.CasMismatch},
		{"it is there, and so", moves(move("refs/a", nil, x)), api.CasMismatch},
		{"it isn't there", moves(move("refs/z", x, y)), api.CasMismatch},
		{"it isn't there, and away", moves(move("refs/z", x, nil)), api.CasMismatch},
		{"it isn't there any more", moves(move("refs/c", x, y)), api.CasMismatch},
		{"it comes again", moves(move("refs/c", nil, y)), api.OK},
		{"it comes", moves(move("refs/z", nil, y)), api.OK},
		{"the name of one below", moves(move("refs/a/x", x, y)), api.CasMismatch},
		{"two where they are", moves(move("refs/b", y, x), move("refs/a", x, y)), api.OK},
		{"the first elsewhere", moves(move("refs/a", y, x), move("refs/b", y, x)), api.CasMismatch},
		{"the last elsewhere", moves(move("refs/a", x, y), move("refs/b", x, y)), api.CasMismatch},
		{"where the other one goes", moves(move("refs/z", nil, x), move("refs/y", x, y)), api.CasMismatch},
	} {
		answered(t, c.what, list, ask(3, c.updates), c.want)
		answered(t, c.what+", with an object", list, ask(3, c.updates, blob("z"), x), c.want)
	}
}

func TestTooManyRefs(t *testing.T) {
	x, y := blobs(2)[0], blobs(2)[1]
	answer := func(refs int) int {
		if refs > 16 {
			return api.QuotaFull
		}
		return api.OK
	}
	for _, refs := range []int{0, 1, 7, 8, 9, 14, 15, 16} {
		list := full(refs, 2)
		for more := 1; more <= 8; more++ {
			var updates []api.Update
			for _, name := range names(refs + more)[refs:] {
				updates = append(updates, move(name, nil, y))
			}
			answered(t, "some more", list, ask(101, updates), answer(refs+more))
			if refs > 0 && more < 8 {
				answered(t, "one moves", list, ask(101, append(updates, move("refs/a", x, y))), answer(refs+more))
				answered(t, "one goes last", list, ask(101, append(updates, move("refs/a", x, nil))), answer(refs+more-1))
				answered(t, "one goes first", list, ask(101, slices.Insert(updates, 0, move("refs/a", x, nil))), answer(refs+more-1))
			}
		}
	}
	answered(t, "one moves", full(16, 2), ask(101, moves(move("refs/p", x, y))), api.OK)
	answered(t, "one goes", full(16, 2), ask(101, moves(move("refs/p", x, nil))), api.OK)
}

// Objects that are there already don't count once more.
func TestTooManyObjects(t *testing.T) {
	fresh := func(n int) [][]byte {
		var list [][]byte
		for k := range n {
			list = append(list, blob(string([]byte{'+', byte(k)})))
		}
		return list
	}
	for _, objects := range []int{1, 2, 30, 62, 63, 64} {
		list := full(1, objects)
		x := blobs(1)[0]
		updates := moves(move("refs/z", nil, x))
		for _, more := range []int{0, 1, 2, 3, 33, 34, 35, 62, 63, 64} {
			want := api.QuotaFull
			if objects+more <= 64 {
				want = api.OK
			}
			answered(t, "more", list, ask(101, updates, fresh(more)...), want)
			if again := blobs(min(objects, 64-more)); len(again) > 0 {
				answered(t, "with some again", list, ask(101, updates, slices.Concat(again, fresh(more))...), want)
				answered(t, "with some again last", list, ask(101, updates, slices.Concat(fresh(more), again)...), want)
			}
		}
	}
	answered(t, "64 at once", nil, ask(1, moves(move("refs/a", nil, blobs(1)[0])), blobs(64)...), api.OK)
	answered(t, "all 64 again", full(1, 64), ask(101, moves(move("refs/z", nil, blobs(1)[0])), blobs(64)...), api.OK)
}

func TestWhatIsMissing(t *testing.T) {
	x, y, z := blob("x"), blob("y"), blob("z")
	top := tree(x, y)
	first := commit("first", top)
	next := commit("next", tree(), first)
	v1, v2 := tag("v1", next), tag("v2", tag("v1", next))
	ofBlob, ofCommit := commit("of a blob", z), commit("of a commit", first)
	list := plain{done(1, moves(move("refs/a", nil, first)), x, y, top, first)}
	for _, c := range []struct {
		what    string
		to      []byte
		objects [][]byte
		want    int
	}{
		{"it is there", x, nil, api.OK},
		{"it is there, and comes again", x, [][]byte{x, first}, api.OK},
		{"it comes", z, [][]byte{z}, api.OK},
		{"it is missing", z, nil, api.MissingObject},
		{"another one comes", z, [][]byte{blob("zz")}, api.MissingObject},
		{"a tree's entry is missing", tree(x, z), [][]byte{tree(x, z)}, api.MissingObject},
		{"a tree's entry comes", tree(x, z), [][]byte{tree(x, z), z}, api.OK},
		{"a commit's tree is missing", next, [][]byte{next}, api.MissingObject},
		{"a commit's tree comes", next, [][]byte{next, tree()}, api.OK},
		{"a commit's parent is missing", commit("", top, next), [][]byte{commit("", top, next)}, api.MissingObject},
		{"what a parent needs is missing", commit("", top, next), [][]byte{commit("", top, next), next}, api.MissingObject},
		{"all of it comes", commit("", top, next), [][]byte{commit("", top, next), next, tree()}, api.OK},
		{"a tag's object is missing", v1, [][]byte{v1}, api.MissingObject},
		{"far behind", v2, [][]byte{v2, v1, next}, api.MissingObject},
		{"far behind, and all comes", v2, [][]byte{tree(), next, v1, v2}, api.OK},
		{"a commit of a blob", ofBlob, [][]byte{ofBlob, z}, api.MissingObject},
		{"a commit of a commit", ofCommit, [][]byte{ofCommit}, api.MissingObject},
		{"a tag of a commit of a blob", tag("", ofBlob), [][]byte{tag("", ofBlob), ofBlob, z}, api.MissingObject},
		{"beside a commit of a blob", z, [][]byte{ofBlob, z}, api.OK},
		{"beside what lacks something", x, [][]byte{v1, tree(z)}, api.OK},
	} {
		answered(t, c.what, list, ask(2, moves(move("refs/b", nil, c.to)), c.objects...), c.want)
		answered(t, c.what+": a ref moves", list, ask(2, moves(move("refs/a", first, c.to)), c.objects...), c.want)
		answered(t, c.what+": with others", list, ask(2, moves(move("refs/c", nil, x), move("refs/b", nil, c.to), move("refs/d", nil, y)), c.objects...), c.want)
	}
	answered(t, "a ref goes", list, ask(2, moves(move("refs/a", first, nil))), api.OK)
	answered(t, "a ref goes, another one misses", list, ask(2, moves(move("refs/a", first, nil), move("refs/b", nil, z))), api.MissingObject)
}

// large is a push whose entry has just so many bytes, though its pack has few: all from a known object of 300 bytes.
func large(t *testing.T, known []byte, updates []api.Update, size int) Push {
	t.Helper()
	e := done(2, updates)
	var items [][]byte
	for k := 1; ; k++ {
		left := size - plainSize(e)
		n := min(left-2, 300)
		if rest := left - 2 - n; rest > 0 && rest < 20 {
			n -= 20
		}
		text := wide(k, n)
		e.Objects = append(e.Objects, text)
		items = append(items, from(known, text))
		if plainSize(e) == size {
			return Push{Number: 2, Updates: updates, Pack: packed(items...)}
		}
	}
}

func plainSize(e entry.Entry) int {
	n := 12
	for _, u := range e.Updates {
		n += 66 + len(u.Ref)
	}
	for _, text := range e.Objects {
		n += 2 + len(text)
	}
	return n
}

func TestEntriesThatAreTooLarge(t *testing.T) {
	known := wide(0, 300)
	list := plain{done(1, moves(move("refs/a", nil, known)), known)}
	var eight []api.Update
	for _, name := range names(9)[1:] {
		eight = append(eight, move(name+strings.Repeat("x", 18), nil, known))
	}
	for what, updates := range map[string][]api.Update{
		"one":               moves(move("refs/b", nil, known)),
		"one that goes":     moves(move("refs/a", known, nil)),
		"one of four bytes": moves(move("r/bc", nil, known)),
		"eight":             eight,
	} {
		for _, size := range []int{2700, 2798, 2799, 2800} {
			p := large(t, known, updates, size)
			answered(t, what, list, p, api.OK)
			e, _, _ := Judge(made(t, list), p)
			if b, err := entry.Bytes(e); err != nil || len(b) != size {
				t.Errorf("%s: %d bytes, %v, not %d", what, len(b), err, size)
			}
		}
		for _, size := range []int{2801, 2802, 2803, 3000, 5000} {
			p := large(t, known, updates, size)
			if len(p.Pack) > 2000 {
				t.Fatalf("%s, %d bytes: a pack of %d bytes", what, size, len(p.Pack))
			}
			answered(t, what, list, p, api.TooLarge)
		}
	}
	p := large(t, known, moves(move("refs/b", nil, known)), 2800)
	p.Number = 1 << 40 // which has as many bytes as any number
	answered(t, "the greatest number", list, p, api.OK)
	p.Client, p.Number = 7, 1
	answered(t, "another client", list, p, api.OK)
}

// What is there already isn't in the entry, and doesn't make it longer.
func TestLargePacksOfWhatIsThere(t *testing.T) {
	known := wide(0, 300)
	list := plain{done(1, moves(move("refs/a", nil, known)), known)}
	var items [][]byte
	for k := 1; k <= 8; k++ {
		list = append(list, done(k+1, moves(move("refs/b"+string(rune('a'+k)), nil, known)), wide(k, 300)))
		items = append(items, from(known, wide(k, 300)))
	}
	updates := moves(move("refs/c", nil, known))
	p := Push{Number: 50, Updates: updates, Pack: packed(append(items, from(known, wide(10, 300)), from(known, wide(11, 300)))...)}
	answered(t, "8 of 10 are there", list, p, api.OK)
	p.Number = 2
	answered(t, "one of 10 is there", list[:1], p, api.TooLarge)
}

func TestObjectsOfAnEntry(t *testing.T) {
	x, y, z, w := blob("x"), blob("y"), blob("z"), wide(1, 80)
	list := plain{done(1, moves(move("refs/a", nil, x)), x, wide(0, 80))}
	updates := moves(move("refs/b", nil, x), move("refs/a", x, nil))
	for _, c := range []struct {
		what string
		pack []byte
		want [][]byte
	}{
		{"none", packOf(), nil},
		{"one", packOf(z), [][]byte{z}},
		{"in order", packOf(z, y, tree(), w), [][]byte{z, y, tree(), w}},
		{"in another order", packOf(w, tree(), y, z), [][]byte{w, tree(), y, z}},
		{"first there", packOf(x, z, y), [][]byte{z, y}},
		{"last there", packOf(z, y, x), [][]byte{z, y}},
		{"one between there", packOf(z, x, y), [][]byte{z, y}},
		{"all there", packOf(wide(0, 80), x), nil},
		{"by a delta from one that is there", packed(from(wide(0, 80), w), told(z)), [][]byte{w, z}},
		{"by a delta from one that isn't", packed(told(w), from(w, wide(2, 80))), [][]byte{w, wide(2, 80)}},
		{"there, by a delta", packed(told(w), from(w, wide(0, 80)), told(z)), [][]byte{w, z}},
	} {
		p := Push{Number: 2, Updates: updates, Pack: c.pack}
		e, is, err := Judge(made(t, list), p)
		if !is || err != nil || e.Answer != api.OK || !slices.Equal(e.Updates, updates) || !slices.EqualFunc(e.Objects, c.want, bytes.Equal) {
			t.Errorf("%s: %v, %v, %v, not %q", c.what, e, is, err, c.want)
		}
		answered(t, c.what, list, p, api.OK)
	}
}

// faulty is a push that has some faults, and what it is answered by the one that is named first; known is an object of 300 bytes, behind which two more have no room.
func faulty(refs bool, known []byte, packs int, has func(k int) bool) (Push, int) {
	x, y := blobs(2)[0], blobs(2)[1]
	updates := moves(move("refs/a", x, y))
	if has(4) {
		updates[0].New = idOf(blob("nowhere"))
	}
	if has(3) && refs {
		updates = append(updates, move("refs/q", nil, y))
	}
	if has(2) {
		updates = append(updates, move("refs/b", y, x))
	}
	if has(0) {
		updates = append(updates, move("b", nil, x))
	}
	var items [][]byte
	if has(5) {
		for k := range 10 {
			items = append(items, from(known, wide(k+1, 300)))
		}
	}
	if has(3) && !refs {
		for k := range 11 {
			items = append(items, told(blob(string([]byte{'+', byte(k)}))))
		}
	}
	b := packed(items...)
	answers := []int{api.Malformed, api.Malformed, api.CasMismatch, api.QuotaFull, api.MissingObject, api.TooLarge}
	if has(1) {
		answers[1] = []int{api.Malformed, api.TooLarge, api.MissingObject}[packs]
		b = slices.Concat([]byte{b[0] + 1}, b[1:], [][]byte{told([]byte("x")), told(wide(0, 301)), from(blob("nowhere"), x)}[packs])
	}
	for k, answer := range answers {
		if has(k) {
			return Push{Number: 101, Updates: updates, Pack: b}, answer
		}
	}
	return Push{Number: 101, Updates: updates, Pack: b}, api.OK
}

// All choices of six faults at once, by each kind of fault; and all of them by a number that was, or is no number.
func TestOrderOfAnswers(t *testing.T) {
	known := wide(0, 300)
	lists := map[bool]plain{}
	for _, refs := range []bool{true, false} {
		list := full(16, 53)
		list[0].Objects = append(list[0].Objects, known) // 54 objects: 10 more may be
		lists[refs] = list
	}
	for faults := range 1 << 6 {
		for packs := range 3 {
			if packs > 0 && faults>>1&1 == 0 { // no fault of a pack's
				continue
			}
			for refs, list := range lists {
				p, want := faulty(refs, known, packs, func(k int) bool { return faults>>k&1 == 1 })
				answered(t, "faults", list, p, want)
				p.Number = 99
				refused(t, "below", list, p, api.ErrStale)
				p.Number = 0
				refused(t, "no number", list, p, api.ErrForm)
				p.Client, p.Number = 8, 100
				refused(t, "no client", list, p, api.ErrForm)
				p.Client = 0
				e, is, err := Judge(made(t, list), p)
				if !entry.Same(e, entry.Entry{Number: 100, Answer: api.CasMismatch}) || is || err != nil {
					t.Errorf("again: %v, %v, %v", e, is, err)
				}
			}
		}
	}
}

// spoil writes over all of a list, and over the room behind it.
func spoil[T any](list []T, by T) {
	list = list[:cap(list)]
	for k := range list {
		list[k] = by
	}
}

// roomy is a push whose lists have room behind them.
func roomy() Push {
	x, y := blob("x"), blob("y")
	updates := append(make([]api.Update, 0, 9), move("refs/a", nil, x), move("refs/b", nil, y))
	b := append(make([]byte, 0, 99), packed(told(x), from(x, y), told(tree(x, y)))...)
	return Push{Client: 3, Number: 5, Updates: updates, Pack: b}
}

func spoilPush(p Push) {
	spoil(p.Updates, api.Update{Ref: "refs/spoilt"})
	spoil(p.Pack, '!')
}

func TestWhatIsHandedInIsNotChanged(t *testing.T) {
	p, was := roomy(), roomy()
	r := repo.New()
	for range 2 { // it is done, and then it was
		Judge(r, p)
		Do(r, p)
		Bytes(p)
		Same(p, p)
	}
	late := p
	late.Number++
	Do(r, late) // CasMismatch
	room := p.Pack[len(p.Pack):cap(p.Pack)]
	if !Same(p, was) || !bytes.Equal(room, make([]byte, len(room))) || p.Updates[:9][8] != (api.Update{}) {
		t.Errorf("%v became %v", was, p)
	}
	b := append(make([]byte, 0, 1000), plainBytes(p)...)
	Parse(b)
	if room := b[len(b):1000]; !bytes.Equal(b, plainBytes(was)) || !bytes.Equal(room, make([]byte, len(room))) {
		t.Errorf("the bytes became %q", b)
	}
}

func TestWhatIsHandedInIsNotKept(t *testing.T) {
	p := roomy()
	r := repo.New()
	want, _, _ := plain(nil).judge(roomy())
	e, _, err := Judge(r, p)
	if err != nil {
		t.Fatal(err)
	}
	Do(r, p)
	b, err := Bytes(p)
	if err != nil {
		t.Fatal(err)
	}
	spoilPush(p)
	if !entry.Same(e, want) {
		t.Errorf("the entry became %v", e)
	}
	alike(t, "what was done", r, plain{want})
	if !bytes.Equal(b, plainBytes(roomy())) {
		t.Errorf("the bytes became %q", b)
	}
	p, err = Parse(b)
	if err != nil {
		t.Fatal(err)
	}
	spoil(b, '!')
	if !Same(p, roomy()) {
		t.Errorf("the push became %v", p)
	}
}

// No list of an answer shares anything with another one, nor with the repository.
func TestWhatIsAnsweredIsTheCallers(t *testing.T) {
	r := repo.New()
	want, _, _ := plain(nil).judge(roomy())
	for range 2 {
		e, _, err := Judge(r, roomy())
		if err != nil || len(e.Objects) != 3 {
			t.Fatal(e, err)
		}
		for k, text := range e.Objects {
			spoil(text, '!')
			for n, other := range e.Objects[k+1:] {
				if !bytes.Equal(other, want.Objects[k+1+n]) {
					t.Errorf("object %d became %q", k+1+n, other)
				}
			}
		}
		spoil(e.Objects, []byte("!"))
		spoil(e.Updates, api.Update{Ref: "refs/spoilt"})
		alike(t, "at first", r, nil)
	}
	e, _, err := Judge(r, roomy())
	if err != nil || r.Apply(e) != nil {
		t.Fatal(err)
	}
	p := Push{Client: 4, Number: 1, Updates: moves(move("refs/c", nil, tree())), Pack: packed(told(blob("x")), told(tree()))}
	e, _, _ = Judge(r, p)
	spoil(e.Objects[0], '!')
	spoil(e.Objects, []byte("!"))
	spoil(e.Updates, api.Update{Ref: "refs/spoilt"})
	alike(t, "behind it", r, plain{want})
}

// Each order of some pushes, and each push again now and then.
func TestEachOrder(t *testing.T) {
	x, y := blob("x"), blob("y")
	top := tree(x)
	first := commit("", top)
	pushes := []Push{
		ask(1, moves(move("refs/a", nil, x)), x),
		ask(1, moves(move("refs/b", nil, first)), first, x, top),
		ask(2, moves(move("refs/a", x, first)), top, first, x),
		ask(2, moves(move("refs/a", x, first)), first),
		ask(3, moves(move("refs/a", first, nil), move("refs/b", first, y)), y),
		{Client: 1, Number: 1, Updates: moves(move("refs/a", nil, y)), Pack: packed(from(x, y))},
		{Client: 1, Number: 2, Updates: moves(move("refs/b", nil, x)), Pack: []byte{0}},
		{Client: 1, Number: 2},
		{Client: 9, Number: 1},
	}
	var each func(r *repo.Repo, list plain, depth int)
	each = func(r *repo.Repo, list plain, depth int) {
		if depth == 0 {
			return
		}
		for _, p := range pushes {
			next := r.Copy()
			each(next, come(t, "in order", next, list, p), depth-1)
		}
	}
	each(repo.New(), nil, 4)
}

// Long orders: whatever comes, it is answered as the plain one says, and what is judged fits.
func TestLongOrders(t *testing.T) {
	answers, faults, again := map[int]int{}, map[error]int{}, 0
	for seed := range 50 {
		c := &chance{uint64(seed)}
		pool := c.pool(10 + c.below(90))
		refs := names(2 + c.below(24))
		r, list := repo.New(), plain(nil)
		for range 60 {
			p := c.push(list, pool, refs)
			switch e, is, err := list.judge(p); {
			case err != nil:
				faults[err]++
			case !is:
				again++
			default:
				answers[e.Answer]++
			}
			list = come(t, "in a long order", r, list, p)
			if c.below(10) == 0 {
				r = r.Copy()
			}
		}
	}
	for _, answer := range []int{api.OK, api.Malformed, api.CasMismatch, api.MissingObject, api.QuotaFull, api.TooLarge} {
		if answers[answer] < 30 {
			t.Errorf("answer %d: just %d", answer, answers[answer])
		}
	}
	if answers[api.OK] < 1000 || again < 30 || faults[api.ErrForm] < 30 || faults[api.ErrStale] < 30 {
		t.Errorf("%v, %d again, %v", answers, again, faults)
	}
}

// update is one of any ref.
func update(ref string) api.Update {
	return api.Update{Ref: ref, Old: idOf(nil), New: idOf([]byte(ref))}
}

// some is pushes that have bytes: plain ones, the smallest ones and the greatest ones, right or not.
func some() []Push {
	eleven := func() []api.Update { return slices.Repeat(moves(update("refs/a")), 11) }
	return []Push{
		{},
		{Client: 1, Number: 2, Updates: moves(update("refs/a")), Pack: []byte{0}},
		{Client: 7, Number: 1 << 40, Updates: moves(update("refs/a"), update("refs/b")), Pack: packOf(blobs(9)...)},
		{Client: 8, Number: 1<<40 + 1},
		{Client: 255, Number: 1<<62 - 1},
		{Number: 0x0102030405060708, Pack: []byte("any text")},
		{Updates: moves(api.Update{}, api.Update{}), Pack: []byte("x")},
		{Updates: moves(update(""), update("no ref's name"), update("\xff\x00"), update("é"))},
		{Updates: moves(api.Update{Ref: "r", Old: api.Oid{0: 1, 31: 2}, New: api.Oid{0: 3, 31: 4}})},
		{Updates: moves(update(strings.Repeat("r", 2922)))}, // 3000 bytes
		{Updates: moves(update(strings.Repeat("r", 256)), update(strings.Repeat("s", 1000)))},
		{Pack: bytes.Repeat([]byte{7}, 255)},
		{Pack: bytes.Repeat([]byte{7}, 256)},
		{Pack: bytes.Repeat([]byte{7}, 2000)},
		{Pack: bytes.Repeat([]byte{7}, 2988)}, // 3000 bytes
		{Updates: eleven(), Pack: make([]byte, 2988-11*72)},
		{Updates: slices.Repeat(moves(update("")), 45), Pack: make([]byte, 18)}, // 3000 bytes
	}
}

func TestBytes(t *testing.T) {
	p := Push{Client: 5, Number: 0x0102030405, Updates: moves(api.Update{Ref: "a/b", New: api.Oid{0: 6, 31: 7}}), Pack: []byte("pack")}
	want := "\x05\x00\x00\x00\x01\x02\x03\x04\x05\x01\x00\x03a/b" + strings.Repeat("\x00", 32) + "\x06" + strings.Repeat("\x00", 30) + "\x07\x00\x04pack"
	if b, err := Bytes(p); string(b) != want || err != nil {
		t.Errorf("%q, %v", b, err)
	}
	if b, err := Bytes(Push{}); string(b) != strings.Repeat("\x00", 12) || err != nil {
		t.Errorf("nothing: %q, %v", b, err)
	}
	for _, p := range some() {
		b, err := Bytes(p)
		if err != nil || !bytes.Equal(b, plainBytes(p)) {
			t.Errorf("Bytes of %v: %q, %v", p, b, err)
		}
		again, err := Parse(b)
		if err != nil || !plainSame(again, p) || !Same(again, p) {
			t.Errorf("Parse of %q: %v, %v, not %v", b, again, err, p)
		}
	}
}

// wantNoBytes wants an error of Bytes, and changes nothing.
func wantNoBytes(t *testing.T, what string, p Push, want error) {
	t.Helper()
	if b, err := Bytes(p); b != nil || !errors.Is(err, want) {
		t.Errorf("%s: %d bytes, %v, not %v", what, len(b), err, want)
	}
}

func TestBytesOfWhatHasNone(t *testing.T) {
	text := func(n int) []byte { return bytes.Repeat([]byte("r"), n) }
	large := make([]byte, 2989)
	for what, p := range map[string]Push{
		"client -1":                   {Client: -1},
		"client 256":                  {Client: 256},
		"the least client":            {Client: math.MinInt},
		"the greatest client":         {Client: math.MaxInt},
		"number -1":                   {Number: -1},
		"number 2^62":                 {Number: 1 << 62},
		"the least number":            {Number: math.MinInt},
		"the greatest number":         {Number: math.MaxInt},
		"256 updates":                 {Updates: make([]api.Update, 256)},
		"257 updates":                 {Updates: make([]api.Update, 257)},
		"512 updates":                 {Updates: make([]api.Update, 512)},
		"100000 updates":              {Updates: make([]api.Update, 100000)},
		"a ref of 65536 bytes":        {Updates: moves(update("r"), update(string(text(65536))))},
		"a ref of 65538 bytes":        {Updates: moves(update("r"), update(string(text(65538))))},
		"a pack of 65536 bytes":       {Pack: text(65536)},
		"a pack of 131072 bytes":      {Pack: text(131072)},
		"client 256, and large":       {Client: 256, Pack: large},
		"number -1, and large":        {Number: -1, Pack: large},
		"256 updates, and large":      {Updates: make([]api.Update, 256), Pack: large},
		"a ref of 65536, and large":   {Updates: moves(update(string(text(65536)))), Pack: large},
		"a pack of 65536, and a ref":  {Updates: moves(update(string(text(65535)))), Pack: text(65536)},
		"a ref of 65536, behind more": {Updates: append(make([]api.Update, 254), update(string(text(65536))))},
	} {
		wantNoBytes(t, what, p, api.ErrForm)
	}
	for what, p := range map[string]Push{
		"a pack of 2989 bytes":   {Pack: large},
		"a pack of 65535 bytes":  {Pack: text(65535)},
		"a ref of 2923 bytes":    {Updates: moves(update(string(text(2923))))},
		"a ref of 65535 bytes":   {Updates: moves(update(string(text(65535))))},
		"45 updates, and 19":     {Updates: make([]api.Update, 45), Pack: text(19)},
		"46 updates":             {Updates: make([]api.Update, 46)},
		"255 updates":            {Updates: make([]api.Update, 255)},
		"the greatest, and more": {Client: 255, Number: 1<<62 - 1, Pack: large},
	} {
		wantNoBytes(t, what, p, api.ErrLarge)
	}
}

// wantAsPlain wants of Parse what the plain one says.
func wantAsPlain(t *testing.T, b []byte) {
	t.Helper()
	want, fault := plainParse(b)
	got, err := Parse(b)
	if !sameError(err, fault) || !plainSame(got, want) {
		t.Errorf("Parse of %q: %v, %v, not %v, %v", b, got, err, want, fault)
	}
	if err != nil && (got.Updates != nil || got.Pack != nil) {
		t.Errorf("Parse of %q: beside %v %v", b, err, got)
	}
	if err != nil {
		return
	}
	if again, err := Bytes(got); err != nil || !bytes.Equal(again, b) {
		t.Errorf("Bytes of what Parse made of %q: %q, %v", b, again, err)
	}
}

func TestParse(t *testing.T) {
	for _, c := range []struct {
		what string
		b    []byte
		want error
	}{
		{"none", nil, api.ErrShort},
		{"11 noughts", make([]byte, 11), api.ErrShort},
		{"12 noughts", make([]byte, 12), nil},
		{"13 noughts", make([]byte, 13), api.ErrLong},
		{"3000 noughts", make([]byte, 3000), api.ErrLong},
		{"3001 noughts", make([]byte, 3001), api.ErrLarge},
		{"3001 bytes that can't be read", bytes.Repeat([]byte{255}, 3001), api.ErrLarge},
		{"a number of 2^62", append([]byte{0, 64}, make([]byte, 10)...), api.ErrRange},
		{"a number below it", append([]byte{0, 63}, make([]byte, 10)...), nil},
		{"a number of 2^64 - 1", append(bytes.Repeat([]byte{255}, 9), 0, 0, 0), api.ErrRange},
		{"a number of 2^62, and no more", append([]byte{0, 64}, make([]byte, 7)...), api.ErrRange},
		{"a number that ends too soon", append([]byte{0, 64}, make([]byte, 6)...), api.ErrShort},
		{"255 updates that aren't there", append(make([]byte, 9), 255, 0, 0), api.ErrShort},
		{"a pack that ends too soon", append(make([]byte, 10), 255, 255), api.ErrShort},
		{"3000 bytes", plainBytes(Push{Pack: make([]byte, 2988)}), nil},
		{"3000 bytes, and one", plainBytes(Push{Pack: make([]byte, 2989)}), api.ErrLarge},
	} {
		if p, err := Parse(c.b); !sameError(err, c.want) || err != nil && !plainSame(p, Push{}) {
			t.Errorf("%s: %v, %v, not %v", c.what, p, err, c.want)
		}
		wantAsPlain(t, c.b)
	}
}

func TestParseOfChangedBytes(t *testing.T) {
	c := &chance{1}
	for _, p := range some() {
		b := plainBytes(p)
		for n := range len(b) {
			if n < 200 || n%37 == 0 || n > len(b)-9 {
				wantAsPlain(t, b[:n])
			}
		}
		for n := range 5 {
			wantAsPlain(t, append(bytes.Clone(b), make([]byte, n)...))
		}
		for range 300 {
			other := bytes.Clone(b)
			for range 1 + c.below(3) {
				other[c.below(min(len(b), 200))] = byte(c.below(256))
			}
			wantAsPlain(t, other)
		}
	}
	for range 20000 {
		b := c.bytes(c.below(200))
		if len(b) > 12 && c.below(2) == 0 {
			b[1], b[9], b[10] = b[1]&63, byte(c.below(3)), 0
		}
		wantAsPlain(t, b)
	}
}

func TestSame(t *testing.T) {
	a := update("refs/a")
	other := a
	other.New[31]++
	old := a
	old.Old[0]++
	list := map[string]Push{
		"nothing":          {},
		"client":           {Client: 1},
		"number":           {Number: 1},
		"both":             {Client: 1, Number: 1},
		"an empty update":  {Updates: make([]api.Update, 1)},
		"two":              {Updates: make([]api.Update, 2)},
		"an update":        {Updates: moves(a)},
		"another ref":      {Updates: moves(api.Update{Ref: "refs/b", Old: a.Old, New: a.New})},
		"another new id":   {Updates: moves(other)},
		"another old id":   {Updates: moves(old)},
		"one more":         {Updates: moves(a, other)},
		"in another order": {Updates: moves(other, a)},
		"a pack":           {Pack: []byte{0}},
		"another pack":     {Pack: []byte{1}},
		"a longer pack":    {Pack: []byte{0, 0}},
		"all":              {Client: 1, Number: 1, Updates: moves(a), Pack: []byte{0}},
		"all, a client":    {Client: 2, Number: 1, Updates: moves(a), Pack: []byte{0}},
		"all, a number":    {Client: 1, Number: 2, Updates: moves(a), Pack: []byte{0}},
		"all, an update":   {Client: 1, Number: 1, Updates: moves(other), Pack: []byte{0}},
		"all, a pack":      {Client: 1, Number: 1, Updates: moves(a), Pack: []byte{1}},
		"beyond":           {Client: -1, Number: math.MaxInt, Updates: make([]api.Update, 300), Pack: make([]byte, 70000)},
	}
	for one, p := range list {
		apart := p
		apart.Updates, apart.Pack = slices.Clone(p.Updates), bytes.Clone(p.Pack)
		if !Same(p, apart) {
			t.Errorf("%s isn't the same as itself", one)
		}
		for two, q := range list {
			if Same(p, q) != (one == two) {
				t.Errorf("Same of %s and %s: %v", one, two, one != two)
			}
		}
	}
	if !Same(Push{Updates: []api.Update{}, Pack: []byte{}}, Push{}) {
		t.Error("empty ones and none aren't the same")
	}
}

// What a push is answered doesn't hang on how often it is asked, nor on what else is asked.
func TestTheSameEachTime(t *testing.T) {
	c := &chance{77}
	pool := c.pool(40)
	r, list := repo.New(), plain(nil)
	for range 40 {
		p := c.push(list, pool, names(8))
		first, firstIs, firstErr := Judge(r, p)
		for range 5 {
			e, is, err := Judge(r.Copy(), p)
			if !entry.Same(e, first) || is != firstIs || !sameError(err, firstErr) {
				t.Fatalf("%v, %v, %v, and then %v, %v, %v", first, firstIs, firstErr, e, is, err)
			}
		}
		list = come(t, "each time", r, list, p)
	}
}

// An entry that is judged has objects that are right, each with its id, so that whoever applies it has them.
func TestWhatIsJudgedIsThere(t *testing.T) {
	c := &chance{5}
	pool := c.pool(60)
	r, list := repo.New(), plain(nil)
	for range 60 {
		p := c.push(list, pool, names(6))
		e, is, err := Judge(r, p)
		if err != nil || !is {
			continue
		}
		list = come(t, "what is judged", r, list, p)
		for _, text := range e.Objects {
			if _, err := object.Parse(text); err != nil || !r.Has(idOf(text)) {
				t.Fatalf("%q: %v", text, err)
			}
		}
		for _, u := range e.Updates {
			if r.Ref(u.Ref) != u.New {
				t.Fatalf("%s is %x, not %x", u.Ref, r.Ref(u.Ref), u.New)
			}
		}
	}
}
