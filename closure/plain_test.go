package closure

import (
	"bytes"
	"crypto/sha256"
	"fmt"
	"slices"

	"cartage/api"
	"cartage/object"
)

// answers is what all calls answer of the same objects and roots.
type answers struct {
	reached, missing, wrong, loose []api.Oid
	whole                          bool
}

func asked(objects [][]byte, roots []api.Oid) answers {
	return answers{
		Reached(objects, roots), Missing(objects, roots), Wrong(objects, roots), Loose(objects, roots),
		Whole(objects, roots),
	}
}

func (a answers) String() string {
	return fmt.Sprintf("reached %x, missing %x, wrong %x, loose %x, whole %v", a.reached, a.missing, a.wrong, a.loose, a.whole)
}

func (a answers) same(b answers) bool {
	return slices.Equal(a.reached, b.reached) && slices.Equal(a.missing, b.missing) &&
		slices.Equal(a.wrong, b.wrong) && slices.Equal(a.loose, b.loose) && a.whole == b.whole
}

// plain goes by the chapter's words: it asks of all objects, again and again, whether they are reached, till no more are.
func plain(objects [][]byte, roots []api.Oid) answers {
	named := slices.Clone(roots)
	for n := -1; n < len(named); {
		n = len(named)
		for _, text := range objects {
			if slices.Contains(named, plainId(text)) {
				for _, id := range plainLinks(text) {
					if !slices.Contains(named, id) {
						named = append(named, id)
					}
				}
			}
		}
	}
	var a answers
	for _, id := range named {
		text := plainText(objects, id)
		if text == nil {
			a.missing = append(a.missing, id)
			continue
		}
		a.reached = append(a.reached, id)
		if plainLetter(text) != 'c' {
			continue
		}
		tree := plainText(objects, plainLinks(text)[0])
		if tree != nil && plainLetter(tree) != 't' {
			a.wrong = append(a.wrong, id)
		}
	}
	for _, text := range objects {
		if id := plainId(text); !slices.Contains(named, id) {
			a.loose = append(a.loose, id)
		}
	}
	a.whole = a.missing == nil && a.wrong == nil
	for _, list := range []*[]api.Oid{&a.reached, &a.missing, &a.wrong, &a.loose} {
		*list = rising(*list...)
	}
	return a
}

// rising is ids rising, each once.
func rising(ids ...api.Oid) []api.Oid {
	list := slices.Clone(ids)
	slices.SortFunc(list, func(a, b api.Oid) int { return bytes.Compare(a[:], b[:]) })
	return slices.Compact(list)
}

func plainId(text []byte) api.Oid { return sha256.Sum256(text) }

// plainText is the text with an id, not nil if there is one.
func plainText(objects [][]byte, id api.Oid) []byte {
	for _, text := range objects {
		if plainId(text) == id {
			return append([]byte{}, text...)
		}
	}
	return nil
}

// plainLetter is the letter of an object's kind; 0 of one that can't be parsed.
func plainLetter(text []byte) byte {
	if _, err := object.Parse(text); err != nil {
		return 0
	}
	return text[0]
}

// plainLinks cuts the ids out of a text by itself.
func plainLinks(text []byte) []api.Oid {
	var list []api.Oid
	switch plainLetter(text) {
	case 't':
		for rest := text[1:]; len(rest) > 0; {
			n := 1 + int(rest[0])
			list = append(list, api.Oid(rest[n:n+32]))
			rest = rest[n+32:]
		}
	case 'c':
		list = append(list, api.Oid(text[1:33]))
		for k := range int(text[33]) {
			list = append(list, api.Oid(text[34+32*k:66+32*k]))
		}
	case 'g':
		list = append(list, api.Oid(text[1:33]))
	}
	return list
}

// What follows is objects' bytes, laid by hand.

func blob(s string) []byte { return []byte("b" + s) }

// tree has an entry for each id; the names are a, b, c and so on.
func tree(ids ...api.Oid) []byte {
	b := []byte("t")
	for k, id := range ids {
		b = append(append(b, 1, byte('a'+k)), id[:]...)
	}
	return b
}

func commit(s string, tree api.Oid, parents ...api.Oid) []byte {
	b := append(append([]byte("c"), tree[:]...), byte(len(parents)))
	for _, id := range parents {
		b = append(b, id[:]...)
	}
	return append(b, s...)
}

func tag(s string, target api.Oid) []byte {
	return append(append([]byte("g"), target[:]...), s...)
}

// idsOf is texts' ids, in order.
func idsOf(texts ...[]byte) []api.Oid {
	var list []api.Oid
	for _, text := range texts {
		list = append(list, plainId(text))
	}
	return list
}

// chance is numbers that are the same ones each time.
type chance struct{ x uint64 }

func (c *chance) below(n int) int {
	c.x = c.x*6364136223846793005 + 1442695040888963407
	return int((c.x >> 20) % uint64(n))
}

// some is each of a list with a chance of one in n, and now and then twice.
func some[T any](c *chance, list []T, n int) []T {
	var out []T
	for _, x := range list {
		for c.below(n) == 0 {
			out = append(out, x)
		}
	}
	return out
}

// id is mostly one of those ahead, now and then one that nothing has.
func (c *chance) id(ahead [][]byte) api.Oid {
	if len(ahead) == 0 || c.below(30) == 0 {
		return plainId([]byte{'?', byte(c.below(3))})
	}
	return plainId(ahead[c.below(len(ahead))])
}

// of is such one, but mostly of a kind, if there is any.
func (c *chance) of(letter byte, ahead [][]byte) api.Oid {
	for range 20 {
		if id := c.id(ahead); plainLetter(plainText(ahead, id)) == letter {
			return id
		}
	}
	return c.id(ahead)
}

// object names what is ahead of it; now and then its bytes can't be parsed.
func (c *chance) object(ahead [][]byte) []byte {
	s := string([]byte{byte('0' + c.below(10)), byte('0' + c.below(10))})
	var b []byte
	switch c.below(6) {
	case 0:
		b = blob(s)
	case 1:
		b = tag(s, c.id(ahead))
	case 2, 3:
		var ids []api.Oid
		for range c.below(9) {
			ids = append(ids, c.id(ahead))
		}
		b = tree(ids...)
	case 4:
		b = commit(s, c.of('t', ahead), some(c, []api.Oid{c.id(ahead), c.of('c', ahead)}, 3)...)
	case 5:
		b = commit(s, c.id(ahead))
	}
	switch c.below(24) {
	case 0:
		return b[:c.below(len(b))]
	case 1:
		return append(b, make([]byte, 300)...)
	case 2:
		b[0] = "x?T"[c.below(3)]
	}
	return b
}

// objects is some that hang on one another, in any order, each now and then not there, or there twice.
func (c *chance) objects(n int) (list [][]byte, ids []api.Oid) {
	var all [][]byte
	for range n {
		all = append(all, c.object(all))
	}
	for range c.below(4) {
		ids = append(ids, c.id(all))
	}
	ids = append(ids, some(c, idsOf(all...), 8)...)
	for _, text := range all {
		if c.below(25) > 0 {
			list = append(list, text)
		}
	}
	list = append(list, some(c, all, 10)...)
	for k := range list {
		other := k + c.below(len(list)-k)
		list[k], list[other] = list[other], list[k]
	}
	return list, ids
}
