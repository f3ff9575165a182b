package delta

import (
	"bytes"
	"slices"
	"strings"

	"cartage/api"
)

// plainApply goes by the chapter's words with an index of its own, and asks for all that could be wrong of a step in their order.
func plainApply(base, delta []byte) ([]byte, error) {
	if len(delta) < 4 {
		return nil, api.ErrShort
	}
	from, to := int(delta[0])*256+int(delta[1]), int(delta[2])*256+int(delta[3])
	if from != len(base) {
		return nil, api.ErrState
	}
	if to > 300 {
		return nil, api.ErrLarge
	}
	text, at := "", 4
	for at < len(delta) {
		n := int(delta[at])
		var part string
		switch {
		case n == 0 || n == 128:
			return nil, api.ErrForm
		case n < 128:
			if at+1+n > len(delta) {
				return nil, api.ErrShort
			}
			part = string(delta[at+1 : at+1+n])
			at += 1 + n
		default:
			if at+3 > len(delta) {
				return nil, api.ErrShort
			}
			place := int(delta[at+1])*256 + int(delta[at+2])
			if place+n-128 > len(base) {
				return nil, api.ErrRange
			}
			part = string(base[place : place+n-128])
			at += 3
		}
		text += part
		if len(text) > to {
			return nil, api.ErrLong
		}
	}
	if len(text) != to {
		return nil, api.ErrShort
	}
	return []byte(text), nil
}

// plainSteps asks the steps' bytes alone.
func plainSteps(delta []byte) (copies, fresh int, err error) {
	if len(delta) < 4 {
		return 0, 0, api.ErrShort
	}
	for rest := delta[4:]; len(rest) > 0; {
		size := 3
		switch {
		case rest[0] == 0 || rest[0] == 128:
			return 0, 0, api.ErrForm
		case rest[0] > 128:
			copies++
		default:
			fresh++
			size = int(rest[0]) + 1
		}
		if size > len(rest) {
			return 0, 0, api.ErrShort
		}
		rest = rest[size:]
	}
	return copies, fresh, nil
}

// plainMake tries each length, the longest one first, and lets a library look for the first place.
func plainMake(base, target []byte) ([]byte, error) {
	if len(base) > 300 || len(target) > 300 {
		return nil, api.ErrLarge
	}
	delta := []byte{byte(len(base) / 256), byte(len(base) % 256), byte(len(target) / 256), byte(len(target) % 256)}
	fresh := ""
	flush := func() {
		for fresh != "" {
			n := min(len(fresh), 127)
			delta = slices.Concat(delta, []byte{byte(n)}, []byte(fresh[:n]))
			fresh = fresh[n:]
		}
	}
	for at := 0; at < len(target); {
		n, place := plainLongest(string(base), string(target[at:]))
		if n == 0 {
			fresh += string(target[at : at+1])
			at++
			continue
		}
		flush()
		delta = append(delta, byte(128+n), byte(place/256), byte(place%256))
		at += n
	}
	flush()
	return delta, nil
}

func plainLongest(base, text string) (n, place int) {
	for n := min(127, len(text)); n >= 4; n-- {
		if place := strings.Index(base, text[:n]); place >= 0 {
			return n, place
		}
	}
	return 0, 0
}

// chance is numbers that are the same ones each time.
type chance struct{ x uint64 }

func (c *chance) below(n int) int {
	c.x = c.x*6364136223846793005 + 1442695040888963407
	return int((c.x >> 20) % uint64(n))
}

// text is n bytes of so many letters.
func (c *chance) text(n, letters int) []byte {
	b := make([]byte, n)
	for k := range b {
		b[k] = byte(c.below(letters))
	}
	return b
}

// near is a text that has much of another one: pieces of it, and bytes of its own.
func (c *chance) near(base []byte, letters int) []byte {
	var b []byte
	for range c.below(8) {
		if len(base) > 0 && c.below(3) > 0 {
			from := c.below(len(base))
			b = append(b, base[from:from+c.below(len(base)-from+1)]...)
		} else {
			b = append(b, c.text(c.below(20), letters)...)
		}
	}
	return b[:min(len(b), 300)]
}

// delta is mostly one that can be read: steps of all kinds, now and then one that is wrong.
func (c *chance) delta(base []byte) []byte {
	var steps []byte
	size := 0
	for range c.below(6) {
		n := 1 + c.below([]int{4, 40, 127}[c.below(3)])
		if c.below(2) == 0 || len(base) == 0 {
			steps = slices.Concat(steps, []byte{byte(n)}, c.text(n, 256))
		} else {
			from := c.below(len(base))
			n = min(n, len(base)-from)
			steps = append(steps, byte(128+n), byte(from/256), byte(from%256))
		}
		size += n
	}
	delta := slices.Concat(pair(len(base), size), steps)
	switch c.below(8) {
	case 0:
		delta[c.below(len(delta))] = byte(c.below(256))
	case 1:
		delta = delta[:c.below(len(delta))]
	case 2:
		delta = append(delta, c.text(1+c.below(4), 256)...)
	case 3:
		delta[3] += byte(c.below(3)) - 1
	}
	return delta
}

// pair is two numbers, as they stand ahead of the steps.
func pair(from, to int) []byte {
	return []byte{byte(from / 256), byte(from % 256), byte(to / 256), byte(to % 256)}
}

// roomy is bytes with something in the room behind them.
func roomy(b []byte) []byte {
	return append(bytes.Clone(b), "the room behind"...)[:len(b)]
}
