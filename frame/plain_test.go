package frame

import (
	"crypto/sha256"
	"encoding/binary"
	"fmt"
	"testing"

	"cartage/api"
)

// plainNames is all who there are, written out.
var plainNames = map[int]string{
	0: "router",
	1: "shard1", 2: "shard2", 3: "shard3", 4: "shard4", 5: "shard5", 6: "shard6", 7: "shard7", 8: "shard8",
	9: "shard9", 10: "shard10", 11: "shard11", 12: "shard12", 13: "shard13", 14: "shard14", 15: "shard15", 16: "shard16",
	64:  "mover",
	128: "client0", 129: "client1", 130: "client2", 131: "client3", 132: "client4", 133: "client5", 134: "client6", 135: "client7",
}

// plainFault goes by the chapter's words.
func plainFault(f Frame) error {
	if f.Kind < 0 || f.Kind > 255 || plainNames[f.From] == "" || plainNames[f.To] == "" {
		return api.ErrRange
	}
	if len(f.Body) > 3000 {
		return api.ErrLarge
	}
	return nil
}

// front is the bytes of any frame whose numbers have a byte each, up to its sum.
func front(f Frame) []byte {
	b := []byte{'c', 'a', 'r', 't', byte(f.Kind), byte(f.From), byte(f.To)}
	b = binary.BigEndian.AppendUint16(b, uint16(len(f.Body)))
	return append(b, f.Body...)
}

// summed is bytes with their sum behind them.
func summed(b []byte) []byte {
	o := sha256.Sum256(b)
	return append(b[:len(b):len(b)], o[0], o[1], o[2], o[3])
}

// plainBytes is the bytes of such a frame, right or not.
func plainBytes(f Frame) []byte { return summed(front(f)) }

// plainParse goes by places, and asks what is wrong in the chapter's order.
func plainParse(b []byte) (Frame, error) {
	if len(b) < 4 {
		return Frame{}, api.ErrShort
	}
	if b[0] != 'c' || b[1] != 'a' || b[2] != 'r' || b[3] != 't' {
		return Frame{}, api.ErrForm
	}
	if len(b) < 9 {
		return Frame{}, api.ErrShort
	}
	end := 9 + int(b[7])*256 + int(b[8])
	if len(b) < end+4 {
		return Frame{}, api.ErrShort
	}
	if len(b) > end+4 {
		return Frame{}, api.ErrLong
	}
	if string(summed(b[:end])) != string(b) {
		return Frame{}, api.ErrSum
	}
	f := Frame{int(b[4]), int(b[5]), int(b[6]), b[9:end]}
	if err := plainFault(f); err != nil {
		return Frame{}, err
	}
	return f, nil
}

// told is a frame written out: two that look alike are the same.
func told(f Frame) string { return fmt.Sprintf("%d %d %d %q", f.Kind, f.From, f.To, f.Body) }

func plainSame(a, b Frame) bool { return told(a) == told(b) }

// body is so many bytes, which aren't all alike.
func body(n int) []byte {
	b := make([]byte, n)
	for k := range b {
		b[k] = byte(k*7 + k>>8 + n)
	}
	return b
}

// chance is numbers that are the same ones each time.
type chance struct{ x uint64 }

func (c *chance) below(n int) int {
	c.x = c.x*6364136223846793005 + 1442695040888963407
	return int((c.x >> 20) % uint64(n))
}

func (c *chance) bytes(n int) []byte {
	b := make([]byte, n)
	for k := range b {
		b[k] = byte(c.below(256))
	}
	return b
}

// who is mostly one that there is.
func (c *chance) who() int {
	if c.below(12) == 0 {
		return c.below(256)
	}
	return []int{0, 1 + c.below(16), 64, 128 + c.below(8)}[c.below(4)]
}

// frame is mostly a right one: of each kind, of each size. Its numbers have a byte each.
func (c *chance) frame() Frame {
	size := c.below([]int{1, 3, 40, 3001}[c.below(4)])
	if c.below(20) == 0 {
		size = 2990 + c.below(20)
	}
	return Frame{c.below(256), c.who(), c.who(), c.bytes(size)}
}

// wantParse wants of Parse what the plain one says.
func wantParse(t *testing.T, b []byte) (Frame, error) {
	t.Helper()
	want, fault := plainParse(b)
	got, err := Parse(b)
	if !sameError(err, fault) || !plainSame(got, want) || fault != nil && got.Body != nil {
		t.Fatalf("Parse of %q: %v, %v, not %v, %v", b, got, err, want, fault)
	}
	return got, err
}

// wantBytes wants of Bytes what the plain one says.
func wantBytes(t *testing.T, f Frame) []byte {
	t.Helper()
	fault := plainFault(f)
	b, err := Bytes(f)
	switch {
	case !sameError(err, fault) || fault != nil && b != nil:
		t.Fatalf("Bytes of %v: %q, %v, not %v", f, b, err, fault)
	case fault == nil && string(b) != string(plainBytes(f)):
		t.Fatalf("Bytes of %v: %q, not %q", f, b, plainBytes(f))
	}
	return b
}
