package shelf

import (
	"bytes"
	"crypto/sha256"
	"encoding/binary"
	"errors"
	"fmt"
	"maps"
	"regexp"
	"slices"
	"testing"

	"cartage/api"
	"cartage/disk"
	"cartage/entry"
	"cartage/halves"
	"cartage/phase"
	"cartage/push"
	"cartage/repo"
)

// plain is a shelf as the chapter tells it: a log, on a disk of its own, of whose records all else is worked out anew each time.
type plain struct {
	disk *disk.Disk
	log  *halves.Log
}

// kept is what there is by a name.
type kept struct {
	phase phase.Phase
	repo  *repo.Repo
}

var nameForm = regexp.MustCompile(`\A[a-z]([a-z0-9-]{0,10}[a-z0-9])?\z`)

// short is bytes behind two that tell how many they are.
func short(b []byte) []byte { return append([]byte{byte(len(b) >> 8), byte(len(b))}, b...) }

func phaseBytes(name string, state, epoch int) []byte {
	b := slices.Concat([]byte{1}, short([]byte(name)), []byte{byte(state)})
	return binary.BigEndian.AppendUint64(b, uint64(epoch))
}

func entryBytes(name string, e entry.Entry) []byte {
	told, err := entry.Bytes(e)
	if err != nil {
		panic(err)
	}
	return slices.Concat([]byte{2}, short([]byte(name)), short(told))
}

// cut is a text that is told as short tells it, and what is behind; false, if there isn't so much.
func cut(b []byte) (text, rest []byte, ok bool) {
	if len(b) < 2 || len(b) < 2+int(b[0])<<8+int(b[1]) {
		return nil, nil, false
	}
	n := 2 + int(b[0])<<8 + int(b[1])
	return b[2:n], b[n:], true
}

// behind is what there is behind a record; false, if it can't be so.
func behind(state map[string]kept, b []byte) bool {
	if len(b) == 0 {
		return false
	}
	text, rest, ok := cut(b[1:])
	name := string(text)
	if !ok || !nameForm.MatchString(name) {
		return false
	}
	k := state[name]
	if k.repo == nil {
		k.repo = repo.New()
	}
	switch b[0] {
	case 1:
		if len(rest) != 9 || rest[0] > 5 || binary.BigEndian.Uint64(rest[1:]) > 1<<40 {
			return false
		}
		k.phase = phase.Phase{State: int(rest[0]), Epoch: int(binary.BigEndian.Uint64(rest[1:]))}
		if (k.phase.State == 0) != (k.phase.Epoch == 0) {
			return false
		}
		if k.phase.State == 1 || k.phase.State == 5 {
			k.repo = repo.New()
		}
	case 2:
		told, rest, ok := cut(rest)
		if !ok || len(rest) > 0 {
			return false
		}
		e, err := entry.Parse(told)
		if err != nil || k.repo.Apply(e) != nil {
			return false
		}
	default:
		return false
	}
	state[name] = k
	return true
}

// stateOf is what records come to, and how many of them can be so.
func stateOf(records [][]byte) (map[string]kept, int) {
	state := map[string]kept{}
	for n, b := range records {
		if !behind(state, b) {
			return state, n
		}
	}
	return state, len(records)
}

// namesOf is those that aren't Absent.
func namesOf(state map[string]kept) []string {
	var list []string
	for _, name := range slices.Sorted(maps.Keys(state)) {
		if state[name].phase.State != 0 {
			list = append(list, name)
		}
	}
	return list
}

// anew is the records by which a log is laid anew.
func anew(state map[string]kept) [][]byte {
	var list [][]byte
	for _, name := range namesOf(state) {
		k := state[name]
		list = append(list, phaseBytes(name, k.phase.State, k.phase.Epoch))
		for _, e := range k.repo.Entries(0, k.repo.Seq()) {
			if k.phase.State != 5 {
				list = append(list, entryBytes(name, e))
			}
		}
	}
	return list
}

func (p *plain) open() error {
	log, err := halves.Open(p.disk)
	if err != nil {
		return err
	}
	p.log = log
	state, n := stateOf(log.Records())
	if n < len(log.Records()) {
		return log.Compact(anew(state))
	}
	return nil
}

func (p *plain) state() map[string]kept {
	state, _ := stateOf(p.log.Records())
	return state
}

func (p *plain) put(state map[string]kept, b []byte) error {
	if halves.Need(len(b)) > p.log.Room() {
		if err := p.log.Compact(anew(state)); err != nil {
			return err
		}
	}
	return p.log.Append(b)
}

func (p *plain) do(name string, event, e int) error {
	if p.log.Dead() {
		return api.ErrDown
	}
	if !nameForm.MatchString(name) {
		return api.ErrName
	}
	state := p.state()
	now := state[name].phase
	next, err := now, api.ErrKind
	switch event {
	case 0:
		next, err = now.Stage(e)
	case 1:
		next, err = now.Open(e)
	case 2:
		next, err = now.Fence(e)
	case 3:
		next, err = now.Tomb(e)
	case 4:
		next, err = now.Drop()
	}
	if err != nil {
		return err
	}
	if now.State == 0 && len(namesOf(state)) >= 8 {
		return api.ErrFull
	}
	return p.put(state, phaseBytes(name, next.State, next.Epoch))
}

func (p *plain) apply(name string, e entry.Entry) error {
	if p.log.Dead() {
		return api.ErrDown
	}
	if !nameForm.MatchString(name) {
		return api.ErrName
	}
	state := p.state()
	if state[name].phase.State != 1 {
		return api.ErrState
	}
	if err := state[name].repo.Copy().Apply(e); err != nil {
		return err
	}
	return p.put(state, entryBytes(name, e))
}

func (p *plain) push(name string, stamp int, ask push.Push) (int, error) {
	if p.log.Dead() {
		return 0, api.ErrDown
	}
	if !nameForm.MatchString(name) {
		return 0, api.ErrName
	}
	state := p.state()
	if err := state[name].phase.Admit(stamp); err != nil {
		return 0, err
	}
	e, is, err := push.Judge(state[name].repo, ask)
	if err == nil && is {
		err = p.put(state, entryBytes(name, e))
	}
	if err != nil {
		return 0, err
	}
	return e.Answer, nil
}

// What follows holds a shelf against a plain one.

func sameError(a, b error) bool {
	return a == nil && b == nil || a != nil && b != nil && errors.Is(a, b)
}

// do fails where what can be done answers an error.
func do(t *testing.T, err error) {
	t.Helper()
	if err != nil {
		t.Fatal(err)
	}
}

// refused fails where a call doesn't answer just this error.
func refused(t *testing.T, what string, err, want error) {
	t.Helper()
	if !sameError(err, want) {
		t.Errorf("%s: %v, not %v", what, err, want)
	}
}

// call is one of the three that write; e is an event's epoch, or a push's stamp.
type call struct {
	kind, name string
	event, e   int
	entry      entry.Entry
	push       push.Push
}

func (c call) on(s *Shelf) (int, error) {
	switch c.kind {
	case "Do":
		return 0, s.Do(c.name, c.event, c.e)
	case "Apply":
		return 0, s.Apply(c.name, c.entry)
	}
	return s.Push(c.name, c.e, c.push)
}

func (c call) onPlain(p *plain) (int, error) {
	switch c.kind {
	case "Do":
		return 0, p.do(c.name, c.event, c.e)
	case "Apply":
		return 0, p.apply(c.name, c.entry)
	}
	return p.push(c.name, c.e, c.push)
}

func (c call) String() string {
	switch c.kind {
	case "Do":
		return fmt.Sprintf("Do(%q, %d, %d)", c.name, c.event, c.e)
	case "Apply":
		return fmt.Sprintf("Apply(%q, %v)", c.name, c.entry)
	}
	return fmt.Sprintf("Push(%q, %d, %v)", c.name, c.e, c.push)
}

func doing(name string, event, e int) call { return call{kind: "Do", name: name, event: event, e: e} }

func applying(name string, e entry.Entry) call { return call{kind: "Apply", name: name, entry: e} }

func pushing(name string, stamp int, p push.Push) call {
	return call{kind: "Push", name: name, e: stamp, push: p}
}

// pair is a shelf and a plain one, each on its disk.
type pair struct {
	t *testing.T
	d *disk.Disk
	s *Shelf
	p *plain
}

func made(t *testing.T, sectors int) *disk.Disk {
	t.Helper()
	d, err := disk.New(sectors)
	do(t, err)
	return d
}

// opened is the shelf of a disk that can be opened.
func opened(t *testing.T, d *disk.Disk) *Shelf {
	t.Helper()
	s, err := Open(d)
	if err != nil || s == nil {
		t.Fatalf("Open: %v, %v", s, err)
	}
	return s
}

// on is the pair of a disk that can be opened, and of a copy of it.
func on(t *testing.T, d *disk.Disk) *pair {
	t.Helper()
	b := &pair{t: t, d: d, p: &plain{disk: d.Copy()}}
	do(t, b.p.open())
	b.s = opened(t, d)
	b.alike("opened")
	return b
}

// started is the pair of a new disk, behind calls.
func started(t *testing.T, sectors int, calls ...call) *pair {
	t.Helper()
	b := on(t, made(t, sectors))
	b.come(calls...)
	return b
}

// apart is a pair that is opened anew on copies of the disks.
func (b *pair) apart() *pair {
	b.t.Helper()
	return on(b.t, b.d.Copy())
}

// come lets calls come to both, and fails where one of them is answered otherwise, or comes to something else; the last one's answer is told.
func (b *pair) come(calls ...call) (got int, err error) {
	b.t.Helper()
	for _, c := range calls {
		want, fault := c.onPlain(b.p)
		got, err = c.on(b.s)
		if got != want || !sameError(err, fault) {
			b.t.Fatalf("%v: %d, %v, not %d, %v", c, got, err, want, fault)
		}
		b.alike(c.String())
	}
	return got, err
}

// comesOnce is one call, and what it must be answered, by this shelf alone.
func (b *pair) comesOnce(c call, want int, fault error) {
	b.t.Helper()
	if got, err := b.come(c); got != want || !sameError(err, fault) {
		b.t.Errorf("%v: %d, %v, not %d, %v", c, got, err, want, fault)
	}
}

// comes is one call, and what it must be answered; also by a shelf that is opened anew, if this one isn't dead.
func (b *pair) comes(c call, want int, fault error) {
	b.t.Helper()
	if !b.s.Dead() {
		got, err := c.on(opened(b.t, b.d.Copy()))
		if got != want || !sameError(err, fault) {
			b.t.Errorf("%v, opened anew: %d, %v, not %d, %v", c, got, err, want, fault)
		}
	}
	b.comesOnce(c, want, fault)
}

// crash lets the power of both fail, and come again; they are opened anew.
func (b *pair) crash(keep []bool) {
	b.t.Helper()
	b.d.Crash(keep)
	b.p.disk.Crash(keep)
	b.reopen()
}

func (b *pair) reopen() {
	b.t.Helper()
	do(b.t, b.p.open())
	b.s = opened(b.t, b.d)
	b.alike("opened anew")
}

// strangers are names of which a shelf mostly has nothing, and texts that are no names.
var strangers = []string{"never", "z9", "", "A", "a-", "9", "-", "a/b", "a name that is too long", "\x00"}

// alike fails where a shelf tells of itself otherwise than the plain one, or has done other deeds.
func (b *pair) alike(what string) {
	b.t.Helper()
	state := b.p.state()
	if got, want := b.s.Names(), namesOf(state); !slices.Equal(got, want) {
		b.t.Fatalf("%s: Names %q, not %q", what, got, want)
	}
	for _, name := range slices.Concat(slices.Collect(maps.Keys(state)), strangers) {
		k := state[name]
		if got := b.s.Phase(name); got != k.phase {
			b.t.Fatalf("%s: Phase(%q): %v, not %v", what, name, got, k.phase)
		}
		got := b.s.Repo(name)
		if k.phase.State == 0 || k.phase.State == 5 {
			if got != nil {
				b.t.Fatalf("%s: Repo(%q) of %v is there", what, name, k.phase)
			}
			continue
		}
		sameRepo(b.t, fmt.Sprintf("%s: Repo(%q)", what, name), got, k.repo)
	}
	if b.s.Room() != b.p.log.Room() || b.s.Serial() != b.p.log.Serial() || b.s.Dead() != b.p.log.Dead() {
		b.t.Fatalf("%s: Room %d, Serial %d, Dead %v, not %d, %d, %v", what, b.s.Room(), b.s.Serial(), b.s.Dead(),
			b.p.log.Room(), b.p.log.Serial(), b.p.log.Dead())
	}
	if b.d.Deeds() != b.p.disk.Deeds() || b.d.Pending() != b.p.disk.Pending() || b.d.Off() != b.p.disk.Off() {
		b.t.Fatalf("%s: %d deeds, %d pending, off %v, not %d, %d, %v", what, b.d.Deeds(), b.d.Pending(), b.d.Off(),
			b.p.disk.Deeds(), b.p.disk.Pending(), b.p.disk.Off())
	}
	if !slices.Equal(safe(b.t, b.d), safe(b.t, b.p.disk)) {
		b.t.Fatalf("%s: other sectors are safe", what)
	}
}

func sameRepo(t *testing.T, what string, got, want *repo.Repo) {
	t.Helper()
	if got == nil || !repo.Same(got, want) {
		t.Fatalf("%s: another journal", what)
	}
	if !slices.Equal(got.Refs(), want.Refs()) || !slices.EqualFunc(got.Objects(), want.Objects(), bytes.Equal) {
		t.Fatalf("%s: refs %v, objects %q, not %v, %q", what, got.Refs(), got.Objects(), want.Refs(), want.Objects())
	}
	for client := range 8 {
		number, answer := got.Last(client)
		if n, a := want.Last(client); n != number || a != answer {
			t.Fatalf("%s: Last(%d): %d, %d, not %d, %d", what, client, number, answer, n, a)
		}
	}
}

// safe is a disk's safe sectors.
func safe(t *testing.T, d *disk.Disk) [][32]byte {
	t.Helper()
	var list [][32]byte
	for i := range d.Size() {
		b, err := d.Safe(i)
		do(t, err)
		list = append(list, [32]byte(b))
	}
	return list
}

// records is those of a disk's log, as a log that is opened on a copy of it tells them.
func records(t *testing.T, d *disk.Disk) [][]byte {
	t.Helper()
	l, err := halves.Open(d.Copy())
	do(t, err)
	return l.Records()
}

// diskOf is a disk on which a log has those records.
func diskOf(t *testing.T, sectors int, list ...[]byte) *disk.Disk {
	t.Helper()
	d := made(t, sectors)
	l, err := halves.Open(d)
	do(t, err)
	for _, b := range list {
		do(t, l.Append(b))
	}
	return d
}

// headOf is a whole head of that serial.
func headOf(serial uint64) []byte {
	b := append(binary.BigEndian.AppendUint64(nil, serial), 2)
	sum := sha256.Sum256(slices.Concat([]byte("head"), b))
	return append(b, sum[:8]...)
}

// seen is all that a shelf says of its repositories, as a text.
func seen(s *Shelf) string {
	told := ""
	for _, name := range s.Names() {
		told += fmt.Sprintf("%s %v", name, s.Phase(name))
		if r := s.Repo(name); r != nil {
			told += fmt.Sprintf(" %v %v %q", r.Entries(0, r.Seq()), r.Refs(), r.Objects())
		}
		told += "\n"
	}
	return told
}

// What follows is objects' bytes, and pushes and entries of them.

func idOf(text []byte) api.Oid { return sha256.Sum256(text) }

func blob(s string) []byte { return []byte("b" + s) }

// move is an update of a ref from one object to another one; nil is none.
func move(ref string, from, to []byte) api.Update {
	u := api.Update{Ref: ref}
	if from != nil {
		u.Old = idOf(from)
	}
	if to != nil {
		u.New = idOf(to)
	}
	return u
}

func moves(list ...api.Update) []api.Update { return list }

// packOf is a pack of objects that are told by themselves.
func packOf(objects ...[]byte) []byte {
	b := []byte{byte(len(objects))}
	for _, text := range objects {
		b = slices.Concat(b, []byte{0}, short(text))
	}
	return b
}

// ask is a push.
func ask(client, number int, updates []api.Update, objects ...[]byte) push.Push {
	return push.Push{Client: client, Number: number, Updates: updates, Pack: packOf(objects...)}
}

// bad is a push that is answered Malformed; its entry has 12 bytes.
func bad(client, number int) push.Push { return push.Push{Client: client, Number: number} }

// done is an entry with OK.
func done(client, number int, updates []api.Update, objects ...[]byte) entry.Entry {
	return entry.Entry{Client: client, Number: number, Updates: updates, Objects: objects}
}

// refusal is an entry with another answer.
func refusal(client, number, answer int) entry.Entry {
	return entry.Entry{Client: client, Number: number, Answer: answer}
}

// chance is numbers that are the same ones each time.
type chance struct{ x uint64 }

func (c *chance) below(n int) int {
	c.x = c.x*6364136223846793005 + 1442695040888963407
	return int((c.x >> 20) % uint64(n))
}

func (c *chance) keep(n int) []bool {
	keep := make([]bool, n)
	for k := range keep {
		keep[k] = c.below(2) == 0
	}
	return keep
}

// object is a blob, mostly small, or a tag of one.
func (c *chance) object() []byte {
	text := blob(string([]byte{byte('0' + c.below(10)), byte('0' + c.below(3))}))
	switch c.below(8) {
	case 0:
		return bytes.Repeat(text, 1+c.below(60))
	case 1:
		id := idOf(text)
		return append([]byte("g"), id[:]...)
	}
	return text
}

// push is mostly one that is answered OK.
func (c *chance) push(r *repo.Repo) push.Push {
	if r == nil {
		r = repo.New()
	}
	p := push.Push{Client: c.below(8)}
	last, _ := r.Last(p.Client)
	p.Number = last + 1 + c.below(2)
	switch c.below(16) {
	case 0, 1:
		p.Number = last
	case 2:
		p.Number = last - 1
	case 3:
		p.Client = 8 - 9*c.below(2)
	case 4, 5:
		return p // it has no updates
	}
	var list [][]byte
	for k := range 1 + c.below(2) {
		text := c.object()
		u := move("refs/"+string(rune('a'+3*k+c.below(3))), nil, text)
		u.Old = r.Ref(u.Ref)
		switch c.below(12) {
		case 0:
			u.Old = idOf(blob("elsewhere"))
		case 1:
			u.New = api.Oid{}
		}
		p.Updates = append(p.Updates, u)
		if !slices.ContainsFunc(list, func(b []byte) bool { return bytes.Equal(b, text) }) && c.below(12) > 0 {
			list = append(list, text)
		}
	}
	p.Pack = packOf(list...)
	return p
}

// entry is mostly one that fits.
func (c *chance) entry(r *repo.Repo) entry.Entry {
	if r == nil {
		r = repo.New()
	}
	e, is, _ := push.Judge(r, c.push(r))
	if !is {
		e = refusal(c.below(8), c.below(4), c.below(12))
	}
	switch c.below(16) {
	case 0:
		e.Number--
	case 1:
		e.Objects = append(e.Objects, c.object())
	case 2:
		e.Updates = append(e.Updates, move("refs/x", nil, c.object()))
	}
	return e
}

// call is mostly one that can be done.
func (c *chance) call(s *Shelf, names []string) call {
	name := names[c.below(len(names))]
	if c.below(40) == 0 {
		name = strangers[c.below(len(strangers))]
	}
	p := s.Phase(name)
	if p.State == 2 && c.below(3) > 0 {
		stamp := p.Epoch
		if c.below(10) == 0 {
			stamp += c.below(3) - 1
		}
		return pushing(name, stamp, c.push(s.Repo(name)))
	}
	if p.State == 1 && c.below(3) > 0 || c.below(20) == 0 {
		return applying(name, c.entry(s.Repo(name)))
	}
	event := []int{0, 1, 1, 2, 3, 4, 4, 5}[c.below(8)]
	e := p.Epoch + 1
	if event == 2 || c.below(6) == 0 {
		e -= c.below(4) / 3 * c.below(3)
	}
	if event == 2 && c.below(6) > 0 {
		e = p.Epoch
	}
	return doing(name, event, e)
}
