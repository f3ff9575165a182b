package pack

import (
	"bytes"
	"crypto/sha256"
	"slices"

	"cartage/api"
	"cartage/delta"
	"cartage/object"
)

// plainRead goes by the chapter's words with an index of its own, and looks for bases by going through all that there is.
func plainRead(b []byte, known [][]byte) (texts [][]byte, depths []int, err error) {
	switch {
	case len(b) > 2000:
		return nil, nil, api.ErrLarge
	case len(b) == 0:
		return nil, nil, api.ErrShort
	case b[0] > 64:
		return nil, nil, api.ErrFull
	}
	rest := b[1:]
	for range b[0] {
		if len(rest) == 0 {
			return nil, nil, api.ErrShort
		}
		how := rest[0]
		front := 1
		switch how {
		case 0:
		case 1:
			front += 32
		default:
			return nil, nil, api.ErrKind
		}
		if len(rest) < front+2 {
			return nil, nil, api.ErrShort
		}
		to := front + 2 + int(rest[front])*256 + int(rest[front+1])
		if len(rest) < to {
			return nil, nil, api.ErrShort
		}
		text, depth := bytes.Clone(rest[front+2:to]), 0
		if how == 1 {
			text, depth, err = plainMade(rest[1:33], text, texts, depths, known)
			if err != nil {
				return nil, nil, err
			}
		}
		if _, err := object.Parse(text); err != nil {
			return nil, nil, err
		}
		if plainPlace(texts, text) >= 0 {
			return nil, nil, api.ErrDup
		}
		texts, depths = append(texts, text), append(depths, depth)
		rest = rest[to:]
	}
	if len(rest) > 0 {
		return nil, nil, api.ErrLong
	}
	return texts, depths, nil
}

// plainMade is what a delta makes of the base with an id, and how deep it is.
func plainMade(id, d []byte, texts [][]byte, depths []int, known [][]byte) ([]byte, int, error) {
	base, depth := []byte(nil), -1
	for _, text := range known {
		if bytes.Equal(plainId(text), id) {
			base, depth = text, 0
		}
	}
	for k, text := range texts {
		if bytes.Equal(plainId(text), id) {
			base, depth = text, depths[k]
		}
	}
	switch {
	case depth < 0:
		return nil, 0, api.ErrMissing
	case depth+1 > 5:
		return nil, 0, api.ErrDepth
	}
	text, err := delta.Apply(base, d)
	return text, depth + 1, err
}

// plainEncode asks all that could be wrong first, and then lays the items one behind the other.
func plainEncode(objects [][]byte) ([]byte, error) {
	if len(objects) > 64 {
		return nil, api.ErrFull
	}
	for k, text := range objects {
		if _, err := object.Parse(text); err != nil {
			return nil, err
		}
		if plainPlace(objects[:k], text) >= 0 {
			return nil, api.ErrDup
		}
	}
	b := []byte{byte(len(objects))}
	depth := 0
	for k, text := range objects {
		if k > 0 && depth < 5 {
			d, err := delta.Make(objects[k-1], text)
			if err == nil && len(text)-len(d) >= 40 {
				b = slices.Concat(b, toldBy(objects[k-1], d))
				depth++
				continue
			}
		}
		b = slices.Concat(b, told(string(text)))
		depth = 0
	}
	if len(b) > 2000 {
		return nil, api.ErrLarge
	}
	return b, nil
}

func plainPlace(list [][]byte, text []byte) int {
	return slices.IndexFunc(list, func(other []byte) bool { return bytes.Equal(other, text) })
}

func plainId(text []byte) []byte {
	sum := sha256.Sum256(text)
	return sum[:]
}

// told is an item that is told by itself.
func told(text string) []byte {
	return slices.Concat([]byte{0, byte(len(text) / 256), byte(len(text) % 256)}, []byte(text))
}

// toldBy is an item that is told by a delta.
func toldBy(base, d []byte) []byte {
	return slices.Concat([]byte{1}, plainId(base), []byte{byte(len(d) / 256), byte(len(d) % 256)}, d)
}

// made is an item that is told by the delta that is made from a base to a text; neither has too many bytes.
func made(base, text string) []byte {
	d, err := delta.Make([]byte(base), []byte(text))
	if err != nil {
		panic(err)
	}
	return toldBy([]byte(base), d)
}

// packed is a pack of items, whatever is right of them.
func packed(items ...[]byte) []byte {
	return slices.Concat([]byte{byte(len(items))}, slices.Concat(items...))
}

func lists(texts ...string) [][]byte {
	var list [][]byte
	for _, s := range texts {
		list = append(list, []byte(s))
	}
	return list
}

// chance is numbers that are the same ones each time.
type chance struct{ x uint64 }

func (c *chance) below(n int) int {
	c.x = c.x*6364136223846793005 + 1442695040888963407
	return int((c.x >> 20) % uint64(n))
}

// text is n bytes, any.
func (c *chance) text(n int) []byte {
	b := make([]byte, n)
	for k := range b {
		b[k] = byte(c.below(256))
	}
	return b
}

// blob is a blob's n bytes.
func (c *chance) blob(n int) []byte {
	b := c.text(n)
	b[0] = 'b'
	return b
}

// object is a right object's bytes: of each kind, the greater part of them near one that is given.
func (c *chance) object(near []byte) []byte {
	if len(near) > 0 && c.below(4) > 0 {
		b := bytes.Clone(near)
		at := 1 + c.below(len(b))
		b = slices.Insert(b, at, c.text(c.below(4))...)
		if _, err := object.Parse(b); err == nil {
			return b
		}
	}
	o := object.Object{Kind: object.Blob, Text: c.text(c.below([]int{3, 60, 140, 300}[c.below(4)]))}
	switch c.below(6) {
	case 0:
		o = object.Object{Kind: object.Tree, Entries: c.entries(c.below(8))}
	case 1:
		o = object.Object{Kind: object.Commit, Target: c.id(), Parents: []api.Oid{c.id()}, Text: c.text(c.below(40))}
	case 2:
		o = object.Object{Kind: object.Tag, Target: c.id(), Text: c.text(c.below(40))}
	}
	b, err := object.Bytes(o)
	if err != nil {
		panic(err)
	}
	return b
}

func (c *chance) entries(n int) []object.Entry {
	var list []object.Entry
	for k := range n {
		list = append(list, object.Entry{Name: string([]byte{byte('a' + k)}), Id: c.id()})
	}
	return list
}

// id is one of few, so that ids come again.
func (c *chance) id() api.Oid { return sha256.Sum256([]byte{byte(c.below(4))}) }

// objects is objects of which many are near the one ahead; now and then one comes again.
func (c *chance) objects(n int) [][]byte {
	var list [][]byte
	for range n {
		var near []byte
		if len(list) > 0 {
			near = list[len(list)-1]
		}
		list = append(list, c.object(near))
	}
	return list
}

// apart is objects, each once.
func (c *chance) apart(n int) [][]byte {
	var list [][]byte
	for _, b := range c.objects(n) {
		if plainPlace(list, b) < 0 {
			list = append(list, b)
		}
	}
	return list
}

// pack is mostly one that can be read: items of both kinds, with bases from all that there is, now and then wrong.
func (c *chance) pack(known [][]byte) []byte {
	var items [][]byte
	bases := slices.Clone(known)
	for range c.below(14) {
		if len(bases) == 0 || c.below(6) == 0 {
			b := c.object(nil)
			items = append(items, told(string(b)))
			bases = append(bases, b)
			continue
		}
		base := bases[max(len(bases)-1-c.below(3), 0)]
		if c.below(40) == 0 {
			base = c.object(nil) // it isn't there
		}
		b := c.object(base)
		items = append(items, made(string(base), string(b)))
		bases = append(bases, b)
	}
	b := packed(items...)
	switch c.below(8) {
	case 0:
		b[c.below(len(b))] = byte(c.below(256))
	case 1:
		b = b[:c.below(len(b)+1)]
	case 2:
		b = append(b, c.text(1+c.below(4))...)
	case 3:
		b[0] += byte(c.below(3)) - 1
	}
	return b
}

// roomy is bytes with something in the room behind them.
func roomy(b []byte) []byte {
	return append(bytes.Clone(b), "the room behind"...)[:len(b)]
}
