package lockbox

import (
	"errors"
	"sync"

	"lockbox/api"
	"lockbox/frame"
)

// log: where frames go, and under which numbers.
type log struct {
	disk  *api.Disk
	key   uint32
	count int // the anchor's count, and so the epoch of the next frame
	seq   int // the sequence number of the next frame
	zone  int // the open zone
	slot  int // where its next frame goes; if it has no room, no zone is open
}

// look is a frame that is looked for, and what was found of it.
type look struct {
	kind, index int
	at          ref
	sealed      []byte
	body        []byte
	err         error
}

func newLog(d *api.Disk, key int) log {
	l := log{disk: d, key: uint32(key)}
	l.leave()
	return l
}

// looksFor tells what to look for if the frames of a kind lie at those refs, one of each index.
func looksFor(kind int, at []ref) []look {
	var out []look
	for i, r := range at {
		if !r.isNone() {
			out = append(out, look{kind: kind, index: i, at: r})
		}
	}
	return out
}

// notDone tells why the disk did not do a call; off: whether the power was gone ahead of it (behind a call that was forbidden the power may be gone too). The disk forbids none but those for which something must be there that is not.
func notDone(off bool, what string, zone int, slot int) error {
	if off {
		return &fault{what, zone, slot, errNoPower}
	}
	return &fault{what, zone, slot, errWrong}
}

// spent tells whether the anchor can be advanced no more.
func (l *log) spent() bool { return l.count >= api.MaxNumber }

// takeCount takes up the anchor's count, and tells what is bound.
func (l *log) takeCount() ([]byte, error) {
	off := l.disk.Off()
	count, bind, ok := l.disk.Anchored()
	if !ok {
		return nil, notDone(off, "the anchor", nowhere, nowhere)
	}
	l.count = count
	return bind, nil
}

// advance binds something to the anchor, and begins a new epoch.
func (l *log) advance(bind []byte) error {
	off := l.disk.Off()
	if !l.disk.Advance(bind) {
		return notDone(off, "the anchor's advance", nowhere, nowhere)
	}
	l.count++
	l.seq = 0
	return nil
}

func (l *log) flush() error {
	off := l.disk.Off()
	if !l.disk.Flush() {
		return notDone(off, "the flushing", nowhere, nowhere)
	}
	return nil
}

func (l *log) reset(zone int) error {
	off := l.disk.Off()
	if !l.disk.Reset(zone) {
		return notDone(off, "the reset of a zone", zone, 0)
	}
	return nil
}

// isOpen tells whether there is an open zone.
func (l *log) isOpen() bool { return l.slot < l.disk.Slots() }

// leave lets the open zone be: the next frame goes to another.
func (l *log) leave() { l.slot = l.disk.Slots() }

// zonesFor tells how many zones n frames need beside the open one.
func (l *log) zonesFor(n int) int {
	left := l.disk.Slots() - l.slot
	return zonesOf(max(0, n-left), l.disk.Slots())
}

// next tells where the next n frames go: into the open zone, then into zones, which are as many as zonesFor says at least.
func (l *log) next(n int, zones []int) []ref {
	out := make([]ref, n)
	zone, slot := l.zone, l.slot
	for i := range out {
		if slot == l.disk.Slots() {
			zone, slot, zones = zones[0], 0, zones[1:]
		}
		out[i] = ref{zone, slot, l.count, l.seq + i}
		slot++
	}
	return out
}

// lay lays frames down where next has told.
func (l *log) lay(frames []api.Frame, at []ref) error {
	for i, b := range l.sealAll(frames, at) {
		if err := l.layOne(b, at[i]); err != nil {
			return err
		}
	}
	return nil
}

// layOne lays one frame down. Its number is used up even if that goes wrong: others may see the frame wherever it came to lie.
func (l *log) layOne(b []byte, at ref) error {
	if at.slot == 0 {
		if err := l.reset(at.zone); err != nil {
			return err
		}
	}
	l.zone, l.slot, l.seq = at.zone, at.slot+1, at.seq+1
	off := l.disk.Off()
	slot, ok := l.disk.Append(at.zone, b)
	if !ok {
		return notDone(off, "a frame to be laid down", at.zone, at.slot)
	}
	if slot != at.slot {
		return &fault{"a frame that came to lie elsewhere", at.zone, at.slot, errWrong}
	}
	return nil
}

// spoilt tells whether others have been at the zone that is written to, and no more than that is known to be wrong: all that the store needs may be there still.
func (l *log) spoilt(err error) bool {
	var f *fault
	return errors.Is(err, errWrong) && errors.As(err, &f) && f.zone == l.zone
}

// sealAll seals each frame under the numbers of its ref.
func (l *log) sealAll(frames []api.Frame, at []ref) [][]byte {
	out := make([][]byte, len(frames))
	var all sync.WaitGroup
	for i, f := range frames {
		f.Epoch, f.Seq = at[i].epoch, at[i].seq
		all.Go(func() { out[i] = frame.Seal(l.key, f) })
	}
	all.Wait()
	return out
}

// openAll finds the bodies of all that is looked for. Without power it looks no further, whatever was wrong ahead of that.
func (l *log) openAll(looks []look) error {
	for i := range looks {
		l.fetch(&looks[i])
		if errors.Is(looks[i].err, errNoPower) {
			return looks[i].err
		}
	}
	var all sync.WaitGroup
	for i := range looks {
		all.Go(func() { l.open(&looks[i]) })
	}
	all.Wait()
	for _, k := range looks {
		if k.err != nil {
			return k.err
		}
	}
	return nil
}

// fetch reads what lies where the frame must be.
func (l *log) fetch(k *look) {
	off := l.disk.Off()
	b, ok := l.disk.Read(k.at.zone, k.at.slot)
	if !ok {
		k.err = notDone(off, "a frame to be read", k.at.zone, k.at.slot)
		return
	}
	k.sealed = b
}

// open opens what was read, if anything was, and holds it against what is looked for.
func (l *log) open(k *look) {
	if k.err != nil {
		return
	}
	f, ok := frame.Open(l.key, k.sealed)
	if !ok || f.Kind != k.kind || f.Index != k.index || f.Epoch != k.at.epoch || f.Seq != k.at.seq {
		k.err = &fault{"another frame", k.at.zone, k.at.slot, errWrong}
		return
	}
	k.body = f.Body
}
